/-
  The walk of SpanKnown.
  SpanKnown: these texts say just these: for every number the law answers true, and its argument reads afterwards as before. The library's variables as the program's text lays them.
-/
import Derived.Test.YtohnlhfgajipgaaGreatDoorG28
import Derived.Test.YtohnlhfgajipgaaGreatDoorTie
import Derived.Test.YtohnlhfgajipgaaGreatDoorCards
import Derived.Test.YtohnlhfgajipgaaGreatDoorG08
import Derived.ProofKit
import Derived.OpenShut
import Derived.ShutString
import Derived.LaidMore
import Derived.Lay
import Derived.SevenTiedAt
import Derived.Stop.Joined

namespace Go.Proofs.YtohnlhfgajipgaaGreatDoor.spanKnown
set_option linter.unusedSimpArgs false
set_option linter.unusedVariables false
open Go.RowKit Go.Vr Go.Sort Go.Tx Go.Lib
attribute [local go_sem] setCellDrewN allocDrewN

/-- The texts, and what they say. -/
def kt : List ByteArray := [⟨#[42]⟩, ⟨#[118, 49, 46, 48, 46, 48]⟩, ⟨#[61, 118, 49, 46, 48, 46, 48]⟩, ⟨#[33, 61, 118, 49, 46, 48, 46, 48]⟩, ⟨#[62, 118, 49, 46, 48, 46, 48]⟩, ⟨#[60, 61, 118, 49, 46, 48, 46, 48]⟩, ⟨#[94, 118, 48, 46, 50, 46, 51]⟩, ⟨#[94, 118, 48, 46, 48, 46, 51]⟩, ⟨#[126, 118, 49, 46, 50, 46, 51]⟩, ⟨#[118, 49, 46, 120]⟩, ⟨#[118, 49, 46, 50, 46, 120]⟩, ⟨#[118, 57, 57, 57, 57, 57, 57, 46, 120]⟩, ⟨#[118, 49, 46, 48, 46, 48, 32, 45, 32, 118, 50, 46, 48, 46, 48]⟩, ⟨#[62, 61, 118, 49, 46, 48, 46, 48, 32, 60, 118, 50, 46, 48, 46, 48]⟩, ⟨#[118, 49, 46, 48, 46, 48, 32, 124, 124, 32, 118, 50, 46, 48, 46, 48]⟩, ⟨#[118, 49, 46, 48, 46, 48, 32, 118, 50, 46, 48, 46, 48]⟩, ⟨#[94, 118, 49, 46, 50, 46, 51, 45, 114, 99]⟩, ⟨#[126, 118, 49, 46, 57, 57, 57, 57, 57, 57, 46, 48]⟩, ⟨#[94, 118, 48, 46, 57, 57, 57, 57, 57, 57, 46, 48]⟩, ⟨#[94, 118, 48, 46, 48, 46, 57, 57, 57, 57, 57, 57]⟩, ⟨#[60, 118, 48, 46, 48, 46, 48, 45, 48]⟩, ⟨#[118, 50, 46, 48, 46, 48, 32, 45, 32, 118, 49, 46, 48, 46, 48]⟩, ⟨#[94, 118, 49, 46, 48, 46, 48, 32, 124, 124, 32, 94, 118, 50, 46, 48, 46, 48]⟩, ⟨#[94, 118, 57, 57, 57, 57, 57, 57, 46, 49, 46, 48]⟩]
def kw : List ByteArray := [⟨#[91, 118, 48, 46, 48, 46, 48, 45, 48, 44, 41]⟩, ⟨#[91, 118, 49, 46, 48, 46, 48, 44, 118, 49, 46, 48, 46, 48, 93]⟩, ⟨#[91, 118, 49, 46, 48, 46, 48, 44, 118, 49, 46, 48, 46, 48, 93]⟩, ⟨#[91, 118, 48, 46, 48, 46, 48, 45, 48, 44, 118, 49, 46, 48, 46, 48, 41, 32, 124, 124, 32, 40, 118, 49, 46, 48, 46, 48, 44, 41]⟩, ⟨#[40, 118, 49, 46, 48, 46, 48, 44, 41]⟩, ⟨#[91, 118, 48, 46, 48, 46, 48, 45, 48, 44, 118, 49, 46, 48, 46, 48, 93]⟩, ⟨#[91, 118, 48, 46, 50, 46, 51, 44, 118, 48, 46, 51, 46, 48, 45, 48, 41]⟩, ⟨#[91, 118, 48, 46, 48, 46, 51, 44, 118, 48, 46, 48, 46, 52, 45, 48, 41]⟩, ⟨#[91, 118, 49, 46, 50, 46, 51, 44, 118, 49, 46, 51, 46, 48, 45, 48, 41]⟩, ⟨#[91, 118, 49, 46, 48, 46, 48, 45, 48, 44, 118, 50, 46, 48, 46, 48, 45, 48, 41]⟩, ⟨#[91, 118, 49, 46, 50, 46, 48, 45, 48, 44, 118, 49, 46, 51, 46, 48, 45, 48, 41]⟩, ⟨#[91, 118, 57, 57, 57, 57, 57, 57, 46, 48, 46, 48, 45, 48, 44, 41]⟩, ⟨#[91, 118, 49, 46, 48, 46, 48, 44, 118, 50, 46, 48, 46, 48, 93]⟩, ⟨#[91, 118, 49, 46, 48, 46, 48, 44, 118, 50, 46, 48, 46, 48, 41]⟩, ⟨#[91, 118, 49, 46, 48, 46, 48, 44, 118, 49, 46, 48, 46, 48, 93, 32, 124, 124, 32, 91, 118, 50, 46, 48, 46, 48, 44, 118, 50, 46, 48, 46, 48, 93]⟩, ⟨#[45]⟩, ⟨#[91, 118, 49, 46, 50, 46, 51, 45, 114, 99, 44, 118, 50, 46, 48, 46, 48, 45, 48, 41]⟩, ⟨#[91, 118, 49, 46, 57, 57, 57, 57, 57, 57, 46, 48, 44, 118, 50, 46, 48, 46, 48, 45, 48, 41]⟩, ⟨#[91, 118, 48, 46, 57, 57, 57, 57, 57, 57, 46, 48, 44, 118, 49, 46, 48, 46, 48, 45, 48, 41]⟩, ⟨#[91, 118, 48, 46, 48, 46, 57, 57, 57, 57, 57, 57, 44, 118, 48, 46, 49, 46, 48, 45, 48, 41]⟩, ⟨#[45]⟩, ⟨#[45]⟩, ⟨#[91, 118, 49, 46, 48, 46, 48, 44, 118, 50, 46, 48, 46, 48, 45, 48, 41, 32, 124, 124, 32, 91, 118, 50, 46, 48, 46, 48, 44, 118, 51, 46, 48, 46, 48, 45, 48, 41]⟩, ⟨#[91, 118, 57, 57, 57, 57, 57, 57, 46, 49, 46, 48, 44, 41]⟩]
abbrev kobj : Obj := .cells #[.string ⟨#[42]⟩, .string ⟨#[118, 49, 46, 48, 46, 48]⟩, .string ⟨#[61, 118, 49, 46, 48, 46, 48]⟩, .string ⟨#[33, 61, 118, 49, 46, 48, 46, 48]⟩, .string ⟨#[62, 118, 49, 46, 48, 46, 48]⟩, .string ⟨#[60, 61, 118, 49, 46, 48, 46, 48]⟩, .string ⟨#[94, 118, 48, 46, 50, 46, 51]⟩, .string ⟨#[94, 118, 48, 46, 48, 46, 51]⟩, .string ⟨#[126, 118, 49, 46, 50, 46, 51]⟩, .string ⟨#[118, 49, 46, 120]⟩, .string ⟨#[118, 49, 46, 50, 46, 120]⟩, .string ⟨#[118, 57, 57, 57, 57, 57, 57, 46, 120]⟩, .string ⟨#[118, 49, 46, 48, 46, 48, 32, 45, 32, 118, 50, 46, 48, 46, 48]⟩, .string ⟨#[62, 61, 118, 49, 46, 48, 46, 48, 32, 60, 118, 50, 46, 48, 46, 48]⟩, .string ⟨#[118, 49, 46, 48, 46, 48, 32, 124, 124, 32, 118, 50, 46, 48, 46, 48]⟩, .string ⟨#[118, 49, 46, 48, 46, 48, 32, 118, 50, 46, 48, 46, 48]⟩, .string ⟨#[94, 118, 49, 46, 50, 46, 51, 45, 114, 99]⟩, .string ⟨#[126, 118, 49, 46, 57, 57, 57, 57, 57, 57, 46, 48]⟩, .string ⟨#[94, 118, 48, 46, 57, 57, 57, 57, 57, 57, 46, 48]⟩, .string ⟨#[94, 118, 48, 46, 48, 46, 57, 57, 57, 57, 57, 57]⟩, .string ⟨#[60, 118, 48, 46, 48, 46, 48, 45, 48]⟩, .string ⟨#[118, 50, 46, 48, 46, 48, 32, 45, 32, 118, 49, 46, 48, 46, 48]⟩, .string ⟨#[94, 118, 49, 46, 48, 46, 48, 32, 124, 124, 32, 94, 118, 50, 46, 48, 46, 48]⟩, .string ⟨#[94, 118, 57, 57, 57, 57, 57, 57, 46, 49, 46, 48]⟩] 9
abbrev pobj : Obj := .cells #[.string ⟨#[91, 118, 48, 46, 48, 46, 48, 45, 48, 44, 41]⟩, .string ⟨#[91, 118, 49, 46, 48, 46, 48, 44, 118, 49, 46, 48, 46, 48, 93]⟩, .string ⟨#[91, 118, 49, 46, 48, 46, 48, 44, 118, 49, 46, 48, 46, 48, 93]⟩, .string ⟨#[91, 118, 48, 46, 48, 46, 48, 45, 48, 44, 118, 49, 46, 48, 46, 48, 41, 32, 124, 124, 32, 40, 118, 49, 46, 48, 46, 48, 44, 41]⟩, .string ⟨#[40, 118, 49, 46, 48, 46, 48, 44, 41]⟩, .string ⟨#[91, 118, 48, 46, 48, 46, 48, 45, 48, 44, 118, 49, 46, 48, 46, 48, 93]⟩, .string ⟨#[91, 118, 48, 46, 50, 46, 51, 44, 118, 48, 46, 51, 46, 48, 45, 48, 41]⟩, .string ⟨#[91, 118, 48, 46, 48, 46, 51, 44, 118, 48, 46, 48, 46, 52, 45, 48, 41]⟩, .string ⟨#[91, 118, 49, 46, 50, 46, 51, 44, 118, 49, 46, 51, 46, 48, 45, 48, 41]⟩, .string ⟨#[91, 118, 49, 46, 48, 46, 48, 45, 48, 44, 118, 50, 46, 48, 46, 48, 45, 48, 41]⟩, .string ⟨#[91, 118, 49, 46, 50, 46, 48, 45, 48, 44, 118, 49, 46, 51, 46, 48, 45, 48, 41]⟩, .string ⟨#[91, 118, 57, 57, 57, 57, 57, 57, 46, 48, 46, 48, 45, 48, 44, 41]⟩, .string ⟨#[91, 118, 49, 46, 48, 46, 48, 44, 118, 50, 46, 48, 46, 48, 93]⟩, .string ⟨#[91, 118, 49, 46, 48, 46, 48, 44, 118, 50, 46, 48, 46, 48, 41]⟩, .string ⟨#[91, 118, 49, 46, 48, 46, 48, 44, 118, 49, 46, 48, 46, 48, 93, 32, 124, 124, 32, 91, 118, 50, 46, 48, 46, 48, 44, 118, 50, 46, 48, 46, 48, 93]⟩, .string ⟨#[45]⟩, .string ⟨#[91, 118, 49, 46, 50, 46, 51, 45, 114, 99, 44, 118, 50, 46, 48, 46, 48, 45, 48, 41]⟩, .string ⟨#[91, 118, 49, 46, 57, 57, 57, 57, 57, 57, 46, 48, 44, 118, 50, 46, 48, 46, 48, 45, 48, 41]⟩, .string ⟨#[91, 118, 48, 46, 57, 57, 57, 57, 57, 57, 46, 48, 44, 118, 49, 46, 48, 46, 48, 45, 48, 41]⟩, .string ⟨#[91, 118, 48, 46, 48, 46, 57, 57, 57, 57, 57, 57, 44, 118, 48, 46, 49, 46, 48, 45, 48, 41]⟩, .string ⟨#[45]⟩, .string ⟨#[45]⟩, .string ⟨#[91, 118, 49, 46, 48, 46, 48, 44, 118, 50, 46, 48, 46, 48, 45, 48, 41, 32, 124, 124, 32, 91, 118, 50, 46, 48, 46, 48, 44, 118, 51, 46, 48, 46, 48, 45, 48, 41]⟩, .string ⟨#[91, 118, 57, 57, 57, 57, 57, 57, 46, 49, 46, 48, 44, 41]⟩] 9
def okB (s : Sp.S) : Bool := (match s.1 with | none => false | some p => p.1.ok) && (match s.2 with | none => true | some p => p.1.ok)
theorem okB_ok {s : Sp.S} (h : okB s = true) : Sp.okS s := by
  obtain ⟨s1, s2⟩ := s
  unfold okB at h
  rw [Bool.and_eq_true] at h
  cases s1 with
  | none => exact absurd h.1 Bool.false_ne_true
  | some p =>
    refine ⟨⟨p, rfl⟩, Sp.ok_v h.1 p.2, ?_⟩
    cases s2 with
    | none => exact Sp.ok_end
    | some q => exact Sp.ok_v h.2 q.2
def good (o : Option (List Sp.S) × Nat) (t : Bs) : Bool := match o.1 with
  | none => false
  | some l => decide (tAll l = t) && decide (l.length ≤ 9) && l.all okB
theorem k_read : ∀ i, i < 24 → good (Sp.parseS (kt.getD i ⟨#[]⟩).data.toList) (kw.getD i ⟨#[]⟩).data.toList = true := by
  have h : ((List.range 24).all fun i => good (Sp.parseS (kt.getD i ⟨#[]⟩).data.toList) (kw.getD i ⟨#[]⟩).data.toList) = true := by decide +kernel
  intro i hi
  exact List.all_eq_true.1 h i (List.mem_range.2 hi)
theorem k_small : ∀ i, i < 24 → (kt.getD i ⟨#[]⟩).size ≤ 1000 ∧ ∀ b ∈ (kt.getD i ⟨#[]⟩).data.toList, b.toNat < 128 := by
  have h : ((List.range 24).all fun i => decide ((kt.getD i ⟨#[]⟩).size ≤ 1000) && (kt.getD i ⟨#[]⟩).data.toList.all fun b => decide (b.toNat < 128)) = true := by decide +kernel
  intro i hi
  have := List.all_eq_true.1 h i (List.mem_range.2 hi)
  simp only [Bool.and_eq_true, decide_eq_true_eq, List.all_eq_true] at this
  exact this
theorem k_cells (w : World) : ∀ j, j < 24 → (w.alloc kobj).cell? ⟨w.heap.size, j, none⟩ = some (.string (kt.getD j ⟨#[]⟩)) := by
  intro j hj
  have e : kobj = .cells (kt.map Value.string).toArray 9 := rfl
  rw [e]
  have hl : j < kt.length := hj
  simp [List.getElem?_eq_getElem hl]
theorem w_cells (w : World) : ∀ j, j < 24 → (w.alloc pobj).cell? ⟨w.heap.size, j, none⟩ = some (.string (kw.getD j ⟨#[]⟩)) := by
  intro j hj
  have e : pobj = .cells (kw.map Value.string).toArray 9 := rfl
  rw [e]
  have hl : j < kw.length := hj
  simp [List.getElem?_eq_getElem hl]
theorem good_of {o : Option (List Sp.S) × Nat} {t : ByteArray} (h : good o t.data.toList = true) : ∃ l, o = (some l, o.2) ∧ str (tAll l) = t ∧ l.length ≤ 9 ∧ Sp.okL l := by
  obtain ⟨o1, o2⟩ := o
  unfold good at h
  cases o1 with
  | none => exact absurd h Bool.false_ne_true
  | some l =>
    simp only [Bool.and_eq_true, decide_eq_true_eq, List.all_eq_true] at h
    exact ⟨l, rfl, by rw [h.1.1, str_of], h.1.2, fun s hs => okB_ok (h.2 s hs)⟩

set_option maxHeartbeats 4000000 in
set_option maxRecDepth 100000 in
theorem walk (a0 : Int) (w : World) (he : Env w) (h0 : -9223372036854775808 ≤ a0 ∧ a0 ≤ 9223372036854775807) :
    Calls Tryz.prog 10 #[.int .i64 a0] w fun e w' => e = .returned (.bool true) ∧ RowKit.Below w.heap.size w w' := by
  obtain ⟨h0, h2⟩ := h0
  have HE := hide he
  clear he
  go_enter Tryz.func10, Tryz.ntmps10
  go_wp2_with fail
  refine (known3_any w HE.out).mono ?_
  rintro e w1 ⟨rfl, b1⟩
  have E1 := hide (HE.out.later b1)
  clear HE
  go_wp2_with fail
  have ba : RowKit.Below w1.heap.size w1 ((w1.alloc kobj).alloc pobj) := (by repeat (first | with_reducible assumption | with_reducible exact Below.refl _ _ | with_reducible refine Below.setCell ?_ (by first | exact Nat.le_refl _ | (simp; done) | (simp; omega)) _ | with_reducible refine bal ?_ _ | with_reducible refine Below.alloc ?_ (by first | exact Nat.le_refl _ | (simp; done) | (simp; omega)) _ | with_reducible refine Below.drew ?_))
  have hk := hide (fun j hj => cellLater (show RowKit.Below (w1.alloc kobj).heap.size (w1.alloc kobj) ((w1.alloc kobj).alloc pobj) from (by repeat (first | with_reducible assumption | with_reducible exact Below.refl _ _ | with_reducible refine Below.setCell ?_ (by first | exact Nat.le_refl _ | (simp; done) | (simp; omega)) _ | with_reducible refine bal ?_ _ | with_reducible refine Below.alloc ?_ (by first | exact Nat.le_refl _ | (simp; done) | (simp; omega)) _ | with_reducible refine Below.drew ?_))) (k_cells w1 j hj))
  have hp := hide (fun j hj => w_cells (w1.alloc kobj) j hj)
  have hsz : (w1.alloc kobj).heap.size = w1.heap.size + 1 := by simp
  rw [hsz] at hp
  generalize hw2 : (w1.alloc kobj).alloc pobj = w2 at *
  clear hw2 hsz
  have E2 := hide (E1.out.later ba)
  have hB2 := hide (step b1 ba)
  clear E1 ba b1
  refine (within3 _ _ _ (by omega) (by omega) (by omega) (by omega)).mono ?_
  rintro e w3 ⟨i, rfl, hi, -, rfl⟩
  have hi2 : i < 24 := by omega
  have ci := hk.out i hi2
  have cq := hide (hp.out i hi2)
  obtain ⟨l, e1, e2, e3, e4⟩ := good_of (k_read i hi2)
  have CP := hide (sparse_any (kt.getD i ⟨#[]⟩) w3 (Nat.le_trans (k_small i hi2).1 (by omega)) (ia_ascii _ (Nat.le_trans (k_small i hi2).1 (by omega)) (k_small i hi2).2) E2.out)
  rw [e1] at CP
  have CT : Hid (∀ (W : World) (ad : Option Addr) (cp : Nat), Env W → ERow ES W ad l.length l → Calls Tryz.prog 34 #[.slice ad l.length cp] W fun e w' => e = .returned (.string (kw.getD i ⟨#[]⟩)) ∧ RowKit.Below W.heap.size W w') := fun W ad cp hE h => by
    have := stext_any ad l.length cp l W h (by omega) e4 hE
    rw [e2] at this
    exact this
  clear e1 e2 e3 e4
  generalize kt.getD i ⟨#[]⟩ = si at *
  generalize kw.getD i ⟨#[]⟩ = wi at *
  generalize w1.heap.size = N at *
  have i1 : (0 : Int) ≤ (i : Int) := by omega
  have i2 : (i : Int) < 24 := by omega
  clear hk hp hi2 hi
  go_wp2_with fail
  refine CP.out.mono ?_
  rintro e w4 ⟨h4, b4⟩
  obtain ⟨v', h4, ho⟩ : ∃ v', e = .returned (.tuple #[v', .int .i64 0, .int .i64 0]) ∧ EOwn ES w4 w3.heap.size v' l := h4
  subst h4
  obtain ⟨ad, cp, rfl, _, _, hr⟩ := ho.any
  have HR := hide hr
  have HB4 := hide (step hB2.out b4)
  have E4 := hide (E2.out.later b4)
  have KQ : ∀ w', RowKit.Below w4.heap.size w4 w' → w'.cell? ⟨N + 1, i, none⟩ = some (.string wi) := fun w' h => cellLater (step b4 h) cq.out
  have hB0 := RowKit.Below.refl w4.heap.size w4
  clear CP ci cq ho hr b4
  generalize l.length = m at *
  go_wp2_with fail
  go_region_held3 (fun w' => RowKit.Below w4.heap.size w4 w') (first | assumption | exact (by repeat (first | with_reducible assumption | with_reducible exact Below.refl _ _ | with_reducible refine Below.setCell ?_ (by first | exact Nat.le_refl _ | (simp; done) | (simp; omega)) _ | with_reducible refine bal ?_ _ | with_reducible refine Below.alloc ?_ (by first | exact Nat.le_refl _ | (simp; done) | (simp; omega)) _ | with_reducible refine Below.drew ?_))) (first
    | (go_at_call 34; refine (CT.out _ _ _ (E4.out.later (by first | assumption | exact (by repeat (first | with_reducible assumption | with_reducible exact Below.refl _ _ | with_reducible refine Below.setCell ?_ (by first | exact Nat.le_refl _ | (simp; done) | (simp; omega)) _ | with_reducible refine bal ?_ _ | with_reducible refine Below.alloc ?_ (by first | exact Nat.le_refl _ | (simp; done) | (simp; omega)) _ | with_reducible refine Below.drew ?_)))) (HR.out.later (by first | assumption | exact (by repeat (first | with_reducible assumption | with_reducible exact Below.refl _ _ | with_reducible refine Below.setCell ?_ (by first | exact Nat.le_refl _ | (simp; done) | (simp; omega)) _ | with_reducible refine bal ?_ _ | with_reducible refine Below.alloc ?_ (by first | exact Nat.le_refl _ | (simp; done) | (simp; omega)) _ | with_reducible refine Below.drew ?_))))).mono ?_; rintro e w5 ⟨rfl, b5⟩; have b5 : RowKit.Below w4.heap.size w4 w5 := (by refine Below.trans ?_ (Below.mono b5 ?_); rotate_left; exact Below.size (by with_reducible assumption); with_reducible assumption)))
  rename_i hHeld
  go_wp2_with fail
  go_ret
  exact ⟨rfl, HB4.out.trans (hHeld.mono HB4.out.size)⟩

end Go.Proofs.YtohnlhfgajipgaaGreatDoor.spanKnown

namespace Go.Proofs.YtohnlhfgajipgaaGreatDoor.spanKnown
open Go.ChangeShapes Go.WideShapes Go.ChangeAt Go.RowKit
open Go.ChangeMaps (open_string shut_string)
set_option linter.unusedVariables false

theorem own : ownKnob Tryz.prog.godebug = none := by kernel_rfl
theorem laidOut : laidOutB Tryz.prog = true := by kernel_rfl

set_option maxRecDepth 100000 in
theorem lifted (os : Os) (started : os.Started) (H : Type) (enc : TypeId × Value → H) :
    ReturnsInHanded {} Tryz.checked os 10 .any (fun w args => (Rows.spanKnownSpec.pre enc Tryz.prog Tryz.f10 Rows.spanKnownRow.domain false w args ∧ laidMetH Tryz.prog Rows.spanKnownRow.laid w) ∧ sizedMet enc Tryz.prog Tryz.f10 (OpenSpec.ofChange Rows.spanKnownSpec) false w args) (Rows.spanKnownSpec.post enc Tryz.prog Tryz.f10 false true false false) := by
  refine handed_laid_shaped (C := Tryz.checked) (laid := Rows.spanKnownRow.laid) own started (by kernel_rfl) Tryz.func10
    (ChangeSpec.witness_shaped (enc := enc) (C := Tryz.checked) (os := os) (X := fun w _ => laidMetH Tryz.prog Rows.spanKnownRow.laid w) false (World.laidAll Tryz.prog os Rows.spanKnownRow.laid) #[.int .i64 0] 8 (World.laidAll_os _ _ _)
      (World.shaped_of_ZipB (by kernel_rfl) (by kernel_rfl)) (by kernel_rfl) (by kernel_rfl) (by kernel_rfl)
      (by rw [MakeChecks.laidMetH_plain _ _ _ (by kernel_rfl)]; exact laidMet_laidAll _ (by kernel_rfl) (by kernel_rfl))) ?_
  intro W base args ds gs before hval0 hW hsz0 hL hS
  have hE : Env W := env_of hL hS
  have hval : ∀ (j : Nat) t v, Tryz.f10.params[j]? = some t → args[j]? = some v → Value.okWide Tryz.prog W .any base t v := hval0
  have hW' := hW
  obtain ⟨p, q, hA0, hV, rfl, hfz, hnd⟩ := hW
  have hA : DataW.TrodAll enc Tryz.prog W 0 (fun _ => true) true Tryz.f10.params.toList args.toList ds p := hA0
  rw [Tryz.params10] at hA hval
  obtain ⟨v0, vs0, d0, ds0, p0, q0, hargs, rfl, rfl, h0, r0⟩ := trodAll_cons hA
  obtain ⟨rfl, rfl, rfl⟩ := trodAll_nil r0
  obtain rfl : args = #[v0] := by cases args; simp_all
  obtain ⟨rfl, rfl⟩ := trodVars_none hV
  obtain ⟨a0, rfl, rfl, rfl, w0⟩ := open_int Tryz.underlying3 (hval 0 3 v0 rfl rfl) h0
  clear hA0 hval0
  refine (walk a0 W hE (Go.bounds_i64 w0)).mono fun e W' ⟨he, bel⟩ => ?_
  subst he
  exact ⟨_, rfl, _, _, _, [], _, [], hW', trodAll_mk1 (shut_bool Tryz.underlying4 _), (trodAll_cons_mk (shut_int Tryz.underlying3 w0) trodAll_mk0), rfl, bel.frame _, fun h => by cases h⟩

theorem holds : Rows.SpanKnownSaid :=
  OpenClaim.holds_of_wide 10 Tryz.f10 rfl rfl rfl rfl rfl rfl rfl ⟨rfl, rfl, rfl, rfl, rfl⟩ rfl rfl rfl rfl rfl (by kernel_rfl) Tryz.func10 (by kernel_rfl)
    (of_decide_eq_true (by kernel_rfl)) (by unfold Func.isWrapper; first | (rw [if_pos (by decide +kernel)]; kernel_rfl) | (rw [if_neg (by decide +kernel)]; exact ⟨rfl, rfl⟩))
    (fun os started H enc _ => lifted os started H enc)

theorem proved : Rows.SpanKnownCardSaid :=
  Claim7.holds_tied_plain_at .later [] [.data, .data, .data, .data, .sentinel, .sentinel, .pinned] true (true, "677dda388697c3be81f00c8f3e7162a91e326615aec89fc25f0adc6f7f408f5b") true holds (fun _ h => by cases h) (by kernel_rfl) (fun _ h => by cases h) spanKnown_row_tie rfl ⟨rfl, rfl⟩ (by kernel_rfl) rfl
    (fun f fn hf hfn => by
      obtain rfl : f = 10 := Option.some.inj ((show Tryz.prog.funcNamed "transhumance/transhumancelaw3.SpanKnown" = some 10 by kernel_rfl).symm.trans hf) |>.symm
      obtain rfl : fn = Tryz.f10 := (Option.some.inj (Tryz.func10.symm.trans hfn)).symm
      exact ⟨by kernel_rfl, fun j t ht => by
        rw [Tryz.params10] at ht
        have hm : t ∈ ([3] : List TypeId) := by simpa using Array.mem_of_getElem? ht
        have hall : (([3] : List TypeId).all fun u => !Tryz.prog.wantsStandIn u) = true := by kernel_rfl
        exact (show Tryz.prog.wantsStandIn t = false by simpa using List.all_eq_true.1 hall t hm)⟩)
    (by kernel_rfl)

end Go.Proofs.YtohnlhfgajipgaaGreatDoor.spanKnown
