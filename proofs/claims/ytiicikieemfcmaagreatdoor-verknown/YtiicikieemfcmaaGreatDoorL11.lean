/-
  The walk of VerKnown.
-/
import Derived.Test.YtiicikieemfcmaaGreatDoorU16
namespace Go.Proofs.YtiicikieemfcmaaGreatDoor.verKnown
set_option linter.unusedSimpArgs false
set_option linter.unusedVariables false
open Go.RowKit Go.Vr Go.Sort Go.Tx Go.Lib
attribute [local go_sem] setCellDrewN allocDrewN

/-- The texts, and the versions that they are. -/
def kt : List ByteArray := [⟨#[118, 48, 46, 48, 46, 48, 45, 48]⟩, ⟨#[118, 48, 46, 48, 46, 48]⟩, ⟨#[118, 49, 46, 48, 46, 48, 45, 48]⟩, ⟨#[118, 49, 46, 48, 46, 48, 45, 49]⟩, ⟨#[118, 49, 46, 48, 46, 48, 45, 50]⟩, ⟨#[118, 49, 46, 48, 46, 48, 45, 49, 48]⟩, ⟨#[118, 49, 46, 48, 46, 48, 45, 45]⟩, ⟨#[118, 49, 46, 48, 46, 48, 45, 65]⟩, ⟨#[118, 49, 46, 48, 46, 48, 45, 97]⟩, ⟨#[118, 49, 46, 48, 46, 48, 45, 97, 46, 48]⟩, ⟨#[118, 49, 46, 48, 46, 48, 45, 97, 46, 49]⟩, ⟨#[118, 49, 46, 48, 46, 48, 45, 97, 46, 97]⟩, ⟨#[118, 49, 46, 48, 46, 48, 45, 97, 46, 98, 46, 99]⟩, ⟨#[118, 49, 46, 48, 46, 48, 45, 97, 48]⟩, ⟨#[118, 49, 46, 48, 46, 48, 45, 114, 99]⟩, ⟨#[118, 49, 46, 48, 46, 48, 45, 114, 99, 46, 49]⟩, ⟨#[118, 49, 46, 48, 46, 48, 45, 114, 99, 46, 49, 46, 49]⟩, ⟨#[118, 49, 46, 48, 46, 48, 45, 114, 99, 49]⟩, ⟨#[118, 49, 46, 48, 46, 48]⟩, ⟨#[118, 49, 46, 48, 46, 49, 45, 48]⟩, ⟨#[118, 49, 46, 48, 46, 49]⟩, ⟨#[118, 49, 46, 49, 46, 48]⟩, ⟨#[118, 49, 46, 50, 46, 48]⟩, ⟨#[118, 49, 46, 49, 48, 46, 48]⟩, ⟨#[118, 50, 46, 48, 46, 48, 45, 97]⟩, ⟨#[118, 50, 46, 48, 46, 48]⟩, ⟨#[118, 49, 48, 46, 48, 46, 48]⟩, ⟨#[118, 57, 57, 57, 57, 57, 57, 46, 48, 46, 48]⟩]
def kvs : List V := [⟨0, 0, 0, ⟨#[48]⟩⟩, ⟨0, 0, 0, ⟨#[]⟩⟩, ⟨1, 0, 0, ⟨#[48]⟩⟩, ⟨1, 0, 0, ⟨#[49]⟩⟩, ⟨1, 0, 0, ⟨#[50]⟩⟩, ⟨1, 0, 0, ⟨#[49, 48]⟩⟩, ⟨1, 0, 0, ⟨#[45]⟩⟩, ⟨1, 0, 0, ⟨#[65]⟩⟩, ⟨1, 0, 0, ⟨#[97]⟩⟩, ⟨1, 0, 0, ⟨#[97, 46, 48]⟩⟩, ⟨1, 0, 0, ⟨#[97, 46, 49]⟩⟩, ⟨1, 0, 0, ⟨#[97, 46, 97]⟩⟩, ⟨1, 0, 0, ⟨#[97, 46, 98, 46, 99]⟩⟩, ⟨1, 0, 0, ⟨#[97, 48]⟩⟩, ⟨1, 0, 0, ⟨#[114, 99]⟩⟩, ⟨1, 0, 0, ⟨#[114, 99, 46, 49]⟩⟩, ⟨1, 0, 0, ⟨#[114, 99, 46, 49, 46, 49]⟩⟩, ⟨1, 0, 0, ⟨#[114, 99, 49]⟩⟩, ⟨1, 0, 0, ⟨#[]⟩⟩, ⟨1, 0, 1, ⟨#[48]⟩⟩, ⟨1, 0, 1, ⟨#[]⟩⟩, ⟨1, 1, 0, ⟨#[]⟩⟩, ⟨1, 2, 0, ⟨#[]⟩⟩, ⟨1, 10, 0, ⟨#[]⟩⟩, ⟨2, 0, 0, ⟨#[97]⟩⟩, ⟨2, 0, 0, ⟨#[]⟩⟩, ⟨10, 0, 0, ⟨#[]⟩⟩, ⟨999999, 0, 0, ⟨#[]⟩⟩]
abbrev kobj : Obj := .cells #[.string ⟨#[118, 48, 46, 48, 46, 48, 45, 48]⟩, .string ⟨#[118, 48, 46, 48, 46, 48]⟩, .string ⟨#[118, 49, 46, 48, 46, 48, 45, 48]⟩, .string ⟨#[118, 49, 46, 48, 46, 48, 45, 49]⟩, .string ⟨#[118, 49, 46, 48, 46, 48, 45, 50]⟩, .string ⟨#[118, 49, 46, 48, 46, 48, 45, 49, 48]⟩, .string ⟨#[118, 49, 46, 48, 46, 48, 45, 45]⟩, .string ⟨#[118, 49, 46, 48, 46, 48, 45, 65]⟩, .string ⟨#[118, 49, 46, 48, 46, 48, 45, 97]⟩, .string ⟨#[118, 49, 46, 48, 46, 48, 45, 97, 46, 48]⟩, .string ⟨#[118, 49, 46, 48, 46, 48, 45, 97, 46, 49]⟩, .string ⟨#[118, 49, 46, 48, 46, 48, 45, 97, 46, 97]⟩, .string ⟨#[118, 49, 46, 48, 46, 48, 45, 97, 46, 98, 46, 99]⟩, .string ⟨#[118, 49, 46, 48, 46, 48, 45, 97, 48]⟩, .string ⟨#[118, 49, 46, 48, 46, 48, 45, 114, 99]⟩, .string ⟨#[118, 49, 46, 48, 46, 48, 45, 114, 99, 46, 49]⟩, .string ⟨#[118, 49, 46, 48, 46, 48, 45, 114, 99, 46, 49, 46, 49]⟩, .string ⟨#[118, 49, 46, 48, 46, 48, 45, 114, 99, 49]⟩, .string ⟨#[118, 49, 46, 48, 46, 48]⟩, .string ⟨#[118, 49, 46, 48, 46, 49, 45, 48]⟩, .string ⟨#[118, 49, 46, 48, 46, 49]⟩, .string ⟨#[118, 49, 46, 49, 46, 48]⟩, .string ⟨#[118, 49, 46, 50, 46, 48]⟩, .string ⟨#[118, 49, 46, 49, 48, 46, 48]⟩, .string ⟨#[118, 50, 46, 48, 46, 48, 45, 97]⟩, .string ⟨#[118, 50, 46, 48, 46, 48]⟩, .string ⟨#[118, 49, 48, 46, 48, 46, 48]⟩, .string ⟨#[118, 57, 57, 57, 57, 57, 57, 46, 48, 46, 48]⟩] 9
theorem k_read : ∀ i, i < 28 → parse (kt.getD i ⟨#[]⟩).data.toList = some (kvs.getD i V.zero) := by
  have h : ((List.range 28).all fun i => decide (parse (kt.getD i ⟨#[]⟩).data.toList = some (kvs.getD i V.zero))) = true := by decide +kernel
  intro i hi
  simpa using List.all_eq_true.1 h i (List.mem_range.2 hi)
theorem k_okays : ∀ i, i < 28 → (kvs.getD i V.zero).ok = true := by
  have h : ((List.range 28).all fun i => (kvs.getD i V.zero).ok) = true := by decide +kernel
  intro i hi
  exact List.all_eq_true.1 h i (List.mem_range.2 hi)
theorem k_small : ∀ i, i < 28 → (kt.getD i ⟨#[]⟩).size ≤ 1000 := by
  have h : ((List.range 28).all fun i => decide ((kt.getD i ⟨#[]⟩).size ≤ 1000)) = true := by decide +kernel
  intro i hi
  simpa using List.all_eq_true.1 h i (List.mem_range.2 hi)
theorem k_order : ∀ i k, i < 28 → k < 28 → decide (cmpV (kvs.getD i V.zero) (kvs.getD k V.zero) < 0) = decide ((i : Int) < k) ∧ (cmpV (kvs.getD i V.zero) (kvs.getD k V.zero) == 0) = ((i : Int) == k) := by
  have h : ((List.range 28).all fun i => (List.range 28).all fun k => (decide (cmpV (kvs.getD i V.zero) (kvs.getD k V.zero) < 0) == decide ((i : Int) < k)) && ((cmpV (kvs.getD i V.zero) (kvs.getD k V.zero) == 0) == ((i : Int) == k))) = true := by decide +kernel
  intro i k hi hk
  have := List.all_eq_true.1 (List.all_eq_true.1 h i (List.mem_range.2 hi)) k (List.mem_range.2 hk)
  rw [Bool.and_eq_true] at this
  exact ⟨eq_of_beq this.1, eq_of_beq this.2⟩
theorem k_cells (w : World) : ∀ j, j < 28 → (w.alloc kobj).cell? ⟨w.heap.size, j, none⟩ = some (.string (kt.getD j ⟨#[]⟩)) := by
  intro j hj
  have e : kobj = .cells (kt.map Value.string).toArray 9 := rfl
  rw [e]
  have hl : j < kt.length := hj
  simp [List.getElem?_eq_getElem hl]

set_option maxHeartbeats 4000000 in
set_option maxRecDepth 100000 in
theorem walk (a0 a1 : Int) (w : World) (he : Env w) (h0 : -9223372036854775808 ≤ a0 ∧ a0 ≤ 9223372036854775807) (h1 : -9223372036854775808 ≤ a1 ∧ a1 ≤ 9223372036854775807) :
    Calls Tryz.prog 10 #[.int .i64 a0, .int .i64 a1] w fun e w' => e = .returned (.bool true) ∧ Below w.heap.size w w' := by
  obtain ⟨h0, h2⟩ := h0
  obtain ⟨h1, h3⟩ := h1
  have HE := hide he
  clear he
  go_enter Tryz.func10, Tryz.ntmps10
  go_wp2_with fail
  refine (known_any w HE.out).mono ?_
  rintro e w1 ⟨rfl, b1⟩
  have E1 := hide (HE.out.later b1)
  clear HE
  go_wp2_with fail
  have ba : Below w1.heap.size w1 (w1.alloc kobj) := (Below.refl _ _).alloc (Nat.le_refl _) _
  have hcells := hide (k_cells w1)
  have hbl : w1.heap.size < (w1.alloc kobj).heap.size := by simp
  generalize hw2 : w1.alloc kobj = w2 at *
  clear hw2
  have E2 := hide (E1.out.later ba)
  have hB2 := step b1 ba
  clear E1 ba
  refine (within_nat _ _ _ (by omega) (by omega) (by omega) (by omega)).mono ?_
  rintro e w3 ⟨i, rfl, hi, -, rfl⟩
  go_wp2_with fail
  refine (within_nat _ _ _ (by omega) (by omega) (by omega) (by omega)).mono ?_
  rintro e w4 ⟨k, rfl, hk, -, rfl⟩
  have hi2 : i < 28 := by omega
  have hk2 : k < 28 := by omega
  have ci := hcells.out i hi2
  have ck := hcells.out k hk2
  have PI := hide (fun W hW => parse_any (kt.getD i ⟨#[]⟩) W (k_small i hi2) hW)
  have PK := hide (fun W hW => parse_any (kt.getD k ⟨#[]⟩) W (k_small k hk2) hW)
  rw [k_read i hi2] at PI
  rw [k_read k hk2] at PK
  have CC := hide (fun W hW => cmp_any (kvs.getD i V.zero) (kvs.getD k V.zero) W (k_okays i hi2) (k_okays k hk2) hW)
  obtain ⟨d1, d2⟩ := k_order i k hi2 hk2
  generalize kt.getD i ⟨#[]⟩ = si at *
  generalize kt.getD k ⟨#[]⟩ = sk at *
  generalize kvs.getD i V.zero = vi at *
  generalize kvs.getD k V.zero = vk at *
  obtain ⟨xa, xb, xc, xp⟩ := vi
  obtain ⟨ya, yb, yc, yp⟩ := vk
  simp only [pret, Option.getD_some, Option.isSome_some] at PI PK
  generalize cmpV ⟨xa, xb, xc, xp⟩ ⟨ya, yb, yc, yp⟩ = cm at *
  generalize w1.heap.size = N at *
  have i1 : (0 : Int) ≤ (i : Int) := by omega
  have k1 : (0 : Int) ≤ (k : Int) := by omega
  clear hcells
  go_wp2_with fail
  refine (PI.out _ E2.out).mono ?_
  rintro e w5 ⟨rfl, b5⟩
  have E5 := hide (E2.out.later b5)
  have hB5 := step hB2 b5
  have ck5 := cellLater b5 ck
  have ba5 : Below w5.heap.size w5 (w5.alloc (.cells #[.int .i64 xa, .int .i64 xb, .int .i64 xc, .string xp] 24)) := (Below.refl _ _).alloc (Nat.le_refl _) _
  have ck6 := cellLater ba5 ck5
  have x5 := World.new_ne w5 ⟨N, k, none⟩ ck5
  have V5 := hide (VarAt.new w5 ⟨xa, xb, xc, xp⟩)
  clear PI ci ck
  go_wp2_with fail
  refine (PK.out _ (E5.out.later ba5)).mono ?_
  rintro e w6 ⟨rfl, b6⟩
  have E6 := hide ((E5.out.later ba5).later b6)
  have hB6 := step hB5 (ba5.trans (b6.mono (by simp)))
  have ba6 : Below w6.heap.size w6 (w6.alloc (.cells #[.int .i64 ya, .int .i64 yb, .int .i64 yc, .string yp] 24)) := (Below.refl _ _).alloc (Nat.le_refl _) _
  obtain ⟨l6, c0, c1, c2, c3, -, -, -, -⟩ := V5.out.later b6
  have m0 := World.new_ne w6 ⟨w5.heap.size, 0, none⟩ c0
  have m1 := World.new_ne w6 ⟨w5.heap.size, 1, none⟩ c1
  have m2 := World.new_ne w6 ⟨w5.heap.size, 2, none⟩ c2
  have m3 := World.new_ne w6 ⟨w5.heap.size, 3, none⟩ c3
  have hn6 : ¬ w5.heap.size = w6.heap.size := by omega
  clear PK ck5 ck6 x5 V5 ba5 E5
  go_wp2_with fail
  refine (CC.out _ (E6.out.later ba6)).mono ?_
  rintro e w7 ⟨rfl, b7⟩
  have hB7 := step hB6 (ba6.trans (b7.mono (by simp)))
  go_wp2_with fail
  go_ret
  exact ⟨by simp [d1, d2], hB7⟩

end Go.Proofs.YtiicikieemfcmaaGreatDoor.verKnown
