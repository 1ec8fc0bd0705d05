/-
  The walk of SpanBad.
-/
import Derived.Test.YtmaklmgjkmbedaaGreatDoorK2
import Derived.BigQuiet
namespace Go.Proofs.YtmaklmgjkmbedaaGreatDoor.spanBad
set_option linter.unusedSimpArgs false
set_option linter.unusedVariables false
open Go.RowKit Go.Vr Go.Sort Go.Tx Go.Lib
attribute [local go_sem] setCellDrewN allocDrewN

/-- The texts, and where they are none. -/
def kt : List ByteArray := [⟨#[]⟩, ⟨#[32, 32]⟩, ⟨#[120]⟩, ⟨#[118, 49, 46, 48, 46, 48, 32, 124]⟩, ⟨#[118, 49, 46, 48, 46, 48, 32, 124, 32, 118, 50, 46, 48, 46, 48]⟩, ⟨#[118, 49, 46, 48, 46, 48, 32, 124, 124]⟩, ⟨#[124, 124, 32, 118, 49, 46, 48, 46, 48]⟩, ⟨#[62, 61, 32, 118, 49, 46, 48, 46, 48]⟩, ⟨#[118, 49, 46, 48, 46, 48, 32, 45, 32]⟩, ⟨#[118, 49, 46, 48, 46, 48, 32, 45, 32, 120]⟩, ⟨#[94, 118, 49, 46, 48, 46, 48, 32, 45, 32, 118, 50, 46, 48, 46, 48]⟩, ⟨#[45, 32, 118, 49, 46, 48, 46, 48]⟩, ⟨#[118, 49, 46, 48, 46, 48, 32, 45, 118, 50, 46, 48, 46, 48]⟩, ⟨#[118, 49]⟩, ⟨#[118, 49, 46, 48]⟩, ⟨#[118, 49, 46, 48, 46, 48, 45]⟩, ⟨#[42, 42]⟩, ⟨#[118, 49, 46, 120, 46, 120]⟩, ⟨#[118, 120]⟩, ⟨#[118, 49, 46, 48, 46, 48, 32, 45, 32, 118, 50, 46, 48, 46, 48, 32, 45, 32, 118, 51, 46, 48, 46, 48]⟩, ⟨#[118, 48, 49, 46, 120]⟩, ⟨#[118, 49, 48, 48, 48, 48, 48, 48, 46, 120]⟩, ⟨#[118, 49, 46, 48, 46, 48, 124, 124, 124, 118, 49, 46, 48, 46, 48]⟩]
def kp : List Nat := [0, 2, 0, 8, 8, 9, 0, 0, 9, 9, 8, 0, 7, 0, 0, 0, 0, 0, 0, 16, 0, 0, 8]
abbrev kobj : Obj := .cells #[.string ⟨#[]⟩, .string ⟨#[32, 32]⟩, .string ⟨#[120]⟩, .string ⟨#[118, 49, 46, 48, 46, 48, 32, 124]⟩, .string ⟨#[118, 49, 46, 48, 46, 48, 32, 124, 32, 118, 50, 46, 48, 46, 48]⟩, .string ⟨#[118, 49, 46, 48, 46, 48, 32, 124, 124]⟩, .string ⟨#[124, 124, 32, 118, 49, 46, 48, 46, 48]⟩, .string ⟨#[62, 61, 32, 118, 49, 46, 48, 46, 48]⟩, .string ⟨#[118, 49, 46, 48, 46, 48, 32, 45, 32]⟩, .string ⟨#[118, 49, 46, 48, 46, 48, 32, 45, 32, 120]⟩, .string ⟨#[94, 118, 49, 46, 48, 46, 48, 32, 45, 32, 118, 50, 46, 48, 46, 48]⟩, .string ⟨#[45, 32, 118, 49, 46, 48, 46, 48]⟩, .string ⟨#[118, 49, 46, 48, 46, 48, 32, 45, 118, 50, 46, 48, 46, 48]⟩, .string ⟨#[118, 49]⟩, .string ⟨#[118, 49, 46, 48]⟩, .string ⟨#[118, 49, 46, 48, 46, 48, 45]⟩, .string ⟨#[42, 42]⟩, .string ⟨#[118, 49, 46, 120, 46, 120]⟩, .string ⟨#[118, 120]⟩, .string ⟨#[118, 49, 46, 48, 46, 48, 32, 45, 32, 118, 50, 46, 48, 46, 48, 32, 45, 32, 118, 51, 46, 48, 46, 48]⟩, .string ⟨#[118, 48, 49, 46, 120]⟩, .string ⟨#[118, 49, 48, 48, 48, 48, 48, 48, 46, 120]⟩, .string ⟨#[118, 49, 46, 48, 46, 48, 124, 124, 124, 118, 49, 46, 48, 46, 48]⟩] 9
abbrev pobj : Obj := .cells #[.int .i64 0, .int .i64 2, .int .i64 0, .int .i64 8, .int .i64 8, .int .i64 9, .int .i64 0, .int .i64 0, .int .i64 9, .int .i64 9, .int .i64 8, .int .i64 0, .int .i64 7, .int .i64 0, .int .i64 0, .int .i64 0, .int .i64 0, .int .i64 0, .int .i64 0, .int .i64 16, .int .i64 0, .int .i64 0, .int .i64 8] 3
theorem k_read : ∀ i, i < 23 → Sp.parseS (kt.getD i ⟨#[]⟩).data.toList = (none, kp.getD i 0) := by
  have h : ((List.range 23).all fun i => (Sp.parseS (kt.getD i ⟨#[]⟩).data.toList).1.isNone && decide ((Sp.parseS (kt.getD i ⟨#[]⟩).data.toList).2 = kp.getD i 0)) = true := by decide +kernel
  intro i hi
  have := List.all_eq_true.1 h i (List.mem_range.2 hi)
  rw [Bool.and_eq_true, decide_eq_true_eq] at this
  exact Prod.ext (Option.isNone_iff_eq_none.1 this.1) this.2
theorem k_small : ∀ i, i < 23 → (kt.getD i ⟨#[]⟩).size ≤ 1000 ∧ ∀ b ∈ (kt.getD i ⟨#[]⟩).data.toList, b.toNat < 128 := by
  have h : ((List.range 23).all fun i => decide ((kt.getD i ⟨#[]⟩).size ≤ 1000) && (kt.getD i ⟨#[]⟩).data.toList.all fun b => decide (b.toNat < 128)) = true := by decide +kernel
  intro i hi
  have := List.all_eq_true.1 h i (List.mem_range.2 hi)
  simp only [Bool.and_eq_true, decide_eq_true_eq, List.all_eq_true] at this
  exact this
theorem k_cells (w : World) : ∀ j, j < 23 → (w.alloc kobj).cell? ⟨w.heap.size, j, none⟩ = some (.string (kt.getD j ⟨#[]⟩)) := by
  intro j hj
  have e : kobj = .cells (kt.map Value.string).toArray 9 := rfl
  rw [e]
  have hl : j < kt.length := hj
  simp [List.getElem?_eq_getElem hl]
theorem p_cells (w : World) : ∀ j, j < 23 → (w.alloc pobj).cell? ⟨w.heap.size, j, none⟩ = some (.int .i64 (kp.getD j 0 : Nat)) := by
  intro j hj
  have e : pobj = .cells (kp.map fun (n : Nat) => Value.int .i64 (n : Int)).toArray 3 := rfl
  rw [e]
  have hl : j < kp.length := hj
  simp [List.getElem?_eq_getElem hl]

set_option maxHeartbeats 4000000 in
set_option maxRecDepth 100000 in
theorem walk (a0 : Int) (w : World) (he : Env w) (h0 : -9223372036854775808 ≤ a0 ∧ a0 ≤ 9223372036854775807) :
    Calls Tryz.prog 11 #[.int .i64 a0] w fun e w' => e = .returned (.bool true) ∧ RowKit.Below w.heap.size w w' := by
  obtain ⟨h0, h2⟩ := h0
  have HE := hide he
  clear he
  go_enter Tryz.func11, Tryz.ntmps11
  go_wp2_with fail
  refine (known3_any w HE.out).mono ?_
  rintro e w1 ⟨rfl, b1⟩
  have E1 := hide (HE.out.later b1)
  clear HE
  go_wp2_with fail
  have ba : RowKit.Below w1.heap.size w1 ((w1.alloc kobj).alloc pobj) := (by repeat (first | with_reducible assumption | with_reducible exact Below.refl _ _ | with_reducible refine Below.setCell ?_ (by first | exact Nat.le_refl _ | (simp; done) | (simp; omega)) _ | with_reducible refine bal ?_ _ | with_reducible refine Below.alloc ?_ (by first | exact Nat.le_refl _ | (simp; done) | (simp; omega)) _ | with_reducible refine Below.drew ?_))
  have hk := hide (fun j hj => cellLater (show RowKit.Below (w1.alloc kobj).heap.size (w1.alloc kobj) ((w1.alloc kobj).alloc pobj) from (by repeat (first | with_reducible assumption | with_reducible exact Below.refl _ _ | with_reducible refine Below.setCell ?_ (by first | exact Nat.le_refl _ | (simp; done) | (simp; omega)) _ | with_reducible refine bal ?_ _ | with_reducible refine Below.alloc ?_ (by first | exact Nat.le_refl _ | (simp; done) | (simp; omega)) _ | with_reducible refine Below.drew ?_))) (k_cells w1 j hj))
  have hp := hide (fun j hj => p_cells (w1.alloc kobj) j hj)
  have hsz : (w1.alloc kobj).heap.size = w1.heap.size + 1 := by simp
  rw [hsz] at hp
  generalize hw2 : (w1.alloc kobj).alloc pobj = w2 at *
  clear hw2 hsz
  have E2 := hide (E1.out.later ba)
  have hB2 := hide (step b1 ba)
  clear E1 ba b1
  refine (within3 _ _ _ (by omega) (by omega) (by omega) (by omega)).mono ?_
  rintro e w3 ⟨i, rfl, hi, -, rfl⟩
  have hi2 : i < 23 := by omega
  have ci := hk.out i hi2
  have cq := hide (hp.out i hi2)
  have CP := hide (sparse_any (kt.getD i ⟨#[]⟩) w3 (Nat.le_trans (k_small i hi2).1 (by omega)) (ia_ascii _ (Nat.le_trans (k_small i hi2).1 (by omega)) (k_small i hi2).2) E2.out)
  rw [k_read i hi2] at CP
  generalize kt.getD i ⟨#[]⟩ = si at *
  generalize kp.getD i 0 = pi at *
  generalize w1.heap.size = N at *
  have i1 : (0 : Int) ≤ (i : Int) := by omega
  have i2 : (i : Int) < 23 := by omega
  clear hk hp hi2 hi
  go_wp2_with fail
  refine CP.out.mono ?_
  rintro e w4 ⟨h4, b4⟩
  have h4 : e = .returned (.tuple #[.slice none 0 0, .int .i64 pi, .int .i64 6]) := h4
  subst h4
  have cp4 := cellLater b4 cq.out
  clear CP ci cq
  go_wp2_with fail
  go_ret
  exact ⟨rfl, step hB2.out b4⟩

end Go.Proofs.YtmaklmgjkmbedaaGreatDoor.spanBad
