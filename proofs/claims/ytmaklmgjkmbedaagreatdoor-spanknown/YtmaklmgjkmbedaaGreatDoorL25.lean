/-
  The walk of SpanKnown.
-/
import Derived.Test.YtmaklmgjkmbedaaGreatDoorK2
namespace Go.Proofs.YtmaklmgjkmbedaaGreatDoor.spanKnown
set_option linter.unusedSimpArgs false
set_option linter.unusedVariables false
open Go.RowKit Go.Vr Go.Sort Go.Tx Go.Lib
attribute [local go_sem] setCellDrewN allocDrewN

/-- The texts, and what they say. -/
def kt : List ByteArray := [⟨#[42]⟩, ⟨#[118, 49, 46, 48, 46, 48]⟩, ⟨#[61, 118, 49, 46, 48, 46, 48]⟩, ⟨#[33, 61, 118, 49, 46, 48, 46, 48]⟩, ⟨#[62, 118, 49, 46, 48, 46, 48]⟩, ⟨#[60, 61, 118, 49, 46, 48, 46, 48]⟩, ⟨#[94, 118, 48, 46, 50, 46, 51]⟩, ⟨#[94, 118, 48, 46, 48, 46, 51]⟩, ⟨#[126, 118, 49, 46, 50, 46, 51]⟩, ⟨#[118, 49, 46, 120]⟩, ⟨#[118, 49, 46, 50, 46, 120]⟩, ⟨#[118, 57, 57, 57, 57, 57, 57, 46, 120]⟩, ⟨#[118, 49, 46, 48, 46, 48, 32, 45, 32, 118, 50, 46, 48, 46, 48]⟩, ⟨#[62, 61, 118, 49, 46, 48, 46, 48, 32, 60, 118, 50, 46, 48, 46, 48]⟩, ⟨#[118, 49, 46, 48, 46, 48, 32, 124, 124, 32, 118, 50, 46, 48, 46, 48]⟩, ⟨#[118, 49, 46, 48, 46, 48, 32, 118, 50, 46, 48, 46, 48]⟩, ⟨#[94, 118, 49, 46, 50, 46, 51, 45, 114, 99]⟩, ⟨#[126, 118, 49, 46, 57, 57, 57, 57, 57, 57, 46, 48]⟩, ⟨#[94, 118, 48, 46, 57, 57, 57, 57, 57, 57, 46, 48]⟩, ⟨#[94, 118, 48, 46, 48, 46, 57, 57, 57, 57, 57, 57]⟩, ⟨#[60, 118, 48, 46, 48, 46, 48, 45, 48]⟩, ⟨#[118, 50, 46, 48, 46, 48, 32, 45, 32, 118, 49, 46, 48, 46, 48]⟩, ⟨#[94, 118, 49, 46, 48, 46, 48, 32, 124, 124, 32, 94, 118, 50, 46, 48, 46, 48]⟩, ⟨#[94, 118, 57, 57, 57, 57, 57, 57, 46, 49, 46, 48]⟩]
def kw : List ByteArray := [⟨#[91, 118, 48, 46, 48, 46, 48, 45, 48, 44, 41]⟩, ⟨#[91, 118, 49, 46, 48, 46, 48, 44, 118, 49, 46, 48, 46, 48, 93]⟩, ⟨#[91, 118, 49, 46, 48, 46, 48, 44, 118, 49, 46, 48, 46, 48, 93]⟩, ⟨#[91, 118, 48, 46, 48, 46, 48, 45, 48, 44, 118, 49, 46, 48, 46, 48, 41, 32, 124, 124, 32, 40, 118, 49, 46, 48, 46, 48, 44, 41]⟩, ⟨#[40, 118, 49, 46, 48, 46, 48, 44, 41]⟩, ⟨#[91, 118, 48, 46, 48, 46, 48, 45, 48, 44, 118, 49, 46, 48, 46, 48, 93]⟩, ⟨#[91, 118, 48, 46, 50, 46, 51, 44, 118, 48, 46, 51, 46, 48, 45, 48, 41]⟩, ⟨#[91, 118, 48, 46, 48, 46, 51, 44, 118, 48, 46, 48, 46, 52, 45, 48, 41]⟩, ⟨#[91, 118, 49, 46, 50, 46, 51, 44, 118, 49, 46, 51, 46, 48, 45, 48, 41]⟩, ⟨#[91, 118, 49, 46, 48, 46, 48, 45, 48, 44, 118, 50, 46, 48, 46, 48, 45, 48, 41]⟩, ⟨#[91, 118, 49, 46, 50, 46, 48, 45, 48, 44, 118, 49, 46, 51, 46, 48, 45, 48, 41]⟩, ⟨#[91, 118, 57, 57, 57, 57, 57, 57, 46, 48, 46, 48, 45, 48, 44, 41]⟩, ⟨#[91, 118, 49, 46, 48, 46, 48, 44, 118, 50, 46, 48, 46, 48, 93]⟩, ⟨#[91, 118, 49, 46, 48, 46, 48, 44, 118, 50, 46, 48, 46, 48, 41]⟩, ⟨#[91, 118, 49, 46, 48, 46, 48, 44, 118, 49, 46, 48, 46, 48, 93, 32, 124, 124, 32, 91, 118, 50, 46, 48, 46, 48, 44, 118, 50, 46, 48, 46, 48, 93]⟩, ⟨#[45]⟩, ⟨#[91, 118, 49, 46, 50, 46, 51, 45, 114, 99, 44, 118, 50, 46, 48, 46, 48, 45, 48, 41]⟩, ⟨#[91, 118, 49, 46, 57, 57, 57, 57, 57, 57, 46, 48, 44, 118, 50, 46, 48, 46, 48, 45, 48, 41]⟩, ⟨#[91, 118, 48, 46, 57, 57, 57, 57, 57, 57, 46, 48, 44, 118, 49, 46, 48, 46, 48, 45, 48, 41]⟩, ⟨#[91, 118, 48, 46, 48, 46, 57, 57, 57, 57, 57, 57, 44, 118, 48, 46, 49, 46, 48, 45, 48, 41]⟩, ⟨#[45]⟩, ⟨#[45]⟩, ⟨#[91, 118, 49, 46, 48, 46, 48, 44, 118, 50, 46, 48, 46, 48, 45, 48, 41, 32, 124, 124, 32, 91, 118, 50, 46, 48, 46, 48, 44, 118, 51, 46, 48, 46, 48, 45, 48, 41]⟩, ⟨#[91, 118, 57, 57, 57, 57, 57, 57, 46, 49, 46, 48, 44, 41]⟩]
abbrev kobj : Obj := .cells #[.string ⟨#[42]⟩, .string ⟨#[118, 49, 46, 48, 46, 48]⟩, .string ⟨#[61, 118, 49, 46, 48, 46, 48]⟩, .string ⟨#[33, 61, 118, 49, 46, 48, 46, 48]⟩, .string ⟨#[62, 118, 49, 46, 48, 46, 48]⟩, .string ⟨#[60, 61, 118, 49, 46, 48, 46, 48]⟩, .string ⟨#[94, 118, 48, 46, 50, 46, 51]⟩, .string ⟨#[94, 118, 48, 46, 48, 46, 51]⟩, .string ⟨#[126, 118, 49, 46, 50, 46, 51]⟩, .string ⟨#[118, 49, 46, 120]⟩, .string ⟨#[118, 49, 46, 50, 46, 120]⟩, .string ⟨#[118, 57, 57, 57, 57, 57, 57, 46, 120]⟩, .string ⟨#[118, 49, 46, 48, 46, 48, 32, 45, 32, 118, 50, 46, 48, 46, 48]⟩, .string ⟨#[62, 61, 118, 49, 46, 48, 46, 48, 32, 60, 118, 50, 46, 48, 46, 48]⟩, .string ⟨#[118, 49, 46, 48, 46, 48, 32, 124, 124, 32, 118, 50, 46, 48, 46, 48]⟩, .string ⟨#[118, 49, 46, 48, 46, 48, 32, 118, 50, 46, 48, 46, 48]⟩, .string ⟨#[94, 118, 49, 46, 50, 46, 51, 45, 114, 99]⟩, .string ⟨#[126, 118, 49, 46, 57, 57, 57, 57, 57, 57, 46, 48]⟩, .string ⟨#[94, 118, 48, 46, 57, 57, 57, 57, 57, 57, 46, 48]⟩, .string ⟨#[94, 118, 48, 46, 48, 46, 57, 57, 57, 57, 57, 57]⟩, .string ⟨#[60, 118, 48, 46, 48, 46, 48, 45, 48]⟩, .string ⟨#[118, 50, 46, 48, 46, 48, 32, 45, 32, 118, 49, 46, 48, 46, 48]⟩, .string ⟨#[94, 118, 49, 46, 48, 46, 48, 32, 124, 124, 32, 94, 118, 50, 46, 48, 46, 48]⟩, .string ⟨#[94, 118, 57, 57, 57, 57, 57, 57, 46, 49, 46, 48]⟩] 9
abbrev pobj : Obj := .cells #[.string ⟨#[91, 118, 48, 46, 48, 46, 48, 45, 48, 44, 41]⟩, .string ⟨#[91, 118, 49, 46, 48, 46, 48, 44, 118, 49, 46, 48, 46, 48, 93]⟩, .string ⟨#[91, 118, 49, 46, 48, 46, 48, 44, 118, 49, 46, 48, 46, 48, 93]⟩, .string ⟨#[91, 118, 48, 46, 48, 46, 48, 45, 48, 44, 118, 49, 46, 48, 46, 48, 41, 32, 124, 124, 32, 40, 118, 49, 46, 48, 46, 48, 44, 41]⟩, .string ⟨#[40, 118, 49, 46, 48, 46, 48, 44, 41]⟩, .string ⟨#[91, 118, 48, 46, 48, 46, 48, 45, 48, 44, 118, 49, 46, 48, 46, 48, 93]⟩, .string ⟨#[91, 118, 48, 46, 50, 46, 51, 44, 118, 48, 46, 51, 46, 48, 45, 48, 41]⟩, .string ⟨#[91, 118, 48, 46, 48, 46, 51, 44, 118, 48, 46, 48, 46, 52, 45, 48, 41]⟩, .string ⟨#[91, 118, 49, 46, 50, 46, 51, 44, 118, 49, 46, 51, 46, 48, 45, 48, 41]⟩, .string ⟨#[91, 118, 49, 46, 48, 46, 48, 45, 48, 44, 118, 50, 46, 48, 46, 48, 45, 48, 41]⟩, .string ⟨#[91, 118, 49, 46, 50, 46, 48, 45, 48, 44, 118, 49, 46, 51, 46, 48, 45, 48, 41]⟩, .string ⟨#[91, 118, 57, 57, 57, 57, 57, 57, 46, 48, 46, 48, 45, 48, 44, 41]⟩, .string ⟨#[91, 118, 49, 46, 48, 46, 48, 44, 118, 50, 46, 48, 46, 48, 93]⟩, .string ⟨#[91, 118, 49, 46, 48, 46, 48, 44, 118, 50, 46, 48, 46, 48, 41]⟩, .string ⟨#[91, 118, 49, 46, 48, 46, 48, 44, 118, 49, 46, 48, 46, 48, 93, 32, 124, 124, 32, 91, 118, 50, 46, 48, 46, 48, 44, 118, 50, 46, 48, 46, 48, 93]⟩, .string ⟨#[45]⟩, .string ⟨#[91, 118, 49, 46, 50, 46, 51, 45, 114, 99, 44, 118, 50, 46, 48, 46, 48, 45, 48, 41]⟩, .string ⟨#[91, 118, 49, 46, 57, 57, 57, 57, 57, 57, 46, 48, 44, 118, 50, 46, 48, 46, 48, 45, 48, 41]⟩, .string ⟨#[91, 118, 48, 46, 57, 57, 57, 57, 57, 57, 46, 48, 44, 118, 49, 46, 48, 46, 48, 45, 48, 41]⟩, .string ⟨#[91, 118, 48, 46, 48, 46, 57, 57, 57, 57, 57, 57, 44, 118, 48, 46, 49, 46, 48, 45, 48, 41]⟩, .string ⟨#[45]⟩, .string ⟨#[45]⟩, .string ⟨#[91, 118, 49, 46, 48, 46, 48, 44, 118, 50, 46, 48, 46, 48, 45, 48, 41, 32, 124, 124, 32, 91, 118, 50, 46, 48, 46, 48, 44, 118, 51, 46, 48, 46, 48, 45, 48, 41]⟩, .string ⟨#[91, 118, 57, 57, 57, 57, 57, 57, 46, 49, 46, 48, 44, 41]⟩] 9
def okB (s : Sp.S) : Bool := (match s.1 with | none => false | some p => p.1.ok) && (match s.2 with | none => true | some p => p.1.ok)
theorem okB_ok {s : Sp.S} (h : okB s = true) : Sp.okS s := by
  obtain ⟨s1, s2⟩ := s
  unfold okB at h
  rw [Bool.and_eq_true] at h
  cases s1 with
  | none => exact absurd h.1 Bool.false_ne_true
  | some p =>
    refine ⟨⟨p, rfl⟩, Sp.ok_v h.1 p.2, ?_⟩
    cases s2 with
    | none => exact Sp.ok_end
    | some q => exact Sp.ok_v h.2 q.2
def good (o : Option (List Sp.S) × Nat) (t : Bs) : Bool := match o.1 with
  | none => false
  | some l => decide (tAll l = t) && decide (l.length ≤ 9) && l.all okB
theorem k_read : ∀ i, i < 24 → good (Sp.parseS (kt.getD i ⟨#[]⟩).data.toList) (kw.getD i ⟨#[]⟩).data.toList = true := by
  have h : ((List.range 24).all fun i => good (Sp.parseS (kt.getD i ⟨#[]⟩).data.toList) (kw.getD i ⟨#[]⟩).data.toList) = true := by decide +kernel
  intro i hi
  exact List.all_eq_true.1 h i (List.mem_range.2 hi)
theorem k_small : ∀ i, i < 24 → (kt.getD i ⟨#[]⟩).size ≤ 1000 ∧ ∀ b ∈ (kt.getD i ⟨#[]⟩).data.toList, b.toNat < 128 := by
  have h : ((List.range 24).all fun i => decide ((kt.getD i ⟨#[]⟩).size ≤ 1000) && (kt.getD i ⟨#[]⟩).data.toList.all fun b => decide (b.toNat < 128)) = true := by decide +kernel
  intro i hi
  have := List.all_eq_true.1 h i (List.mem_range.2 hi)
  simp only [Bool.and_eq_true, decide_eq_true_eq, List.all_eq_true] at this
  exact this
theorem k_cells (w : World) : ∀ j, j < 24 → (w.alloc kobj).cell? ⟨w.heap.size, j, none⟩ = some (.string (kt.getD j ⟨#[]⟩)) := by
  intro j hj
  have e : kobj = .cells (kt.map Value.string).toArray 9 := rfl
  rw [e]
  have hl : j < kt.length := hj
  simp [List.getElem?_eq_getElem hl]
theorem w_cells (w : World) : ∀ j, j < 24 → (w.alloc pobj).cell? ⟨w.heap.size, j, none⟩ = some (.string (kw.getD j ⟨#[]⟩)) := by
  intro j hj
  have e : pobj = .cells (kw.map Value.string).toArray 9 := rfl
  rw [e]
  have hl : j < kw.length := hj
  simp [List.getElem?_eq_getElem hl]
theorem good_of {o : Option (List Sp.S) × Nat} {t : ByteArray} (h : good o t.data.toList = true) : ∃ l, o = (some l, o.2) ∧ str (tAll l) = t ∧ l.length ≤ 9 ∧ Sp.okL l := by
  obtain ⟨o1, o2⟩ := o
  unfold good at h
  cases o1 with
  | none => exact absurd h Bool.false_ne_true
  | some l =>
    simp only [Bool.and_eq_true, decide_eq_true_eq, List.all_eq_true] at h
    exact ⟨l, rfl, by rw [h.1.1, str_of], h.1.2, fun s hs => okB_ok (h.2 s hs)⟩

set_option maxHeartbeats 4000000 in
set_option maxRecDepth 100000 in
theorem walk (a0 : Int) (w : World) (he : Env w) (h0 : -9223372036854775808 ≤ a0 ∧ a0 ≤ 9223372036854775807) :
    Calls Tryz.prog 10 #[.int .i64 a0] w fun e w' => e = .returned (.bool true) ∧ RowKit.Below w.heap.size w w' := by
  obtain ⟨h0, h2⟩ := h0
  have HE := hide he
  clear he
  go_enter Tryz.func10, Tryz.ntmps10
  go_wp2_with fail
  refine (known3_any w HE.out).mono ?_
  rintro e w1 ⟨rfl, b1⟩
  have E1 := hide (HE.out.later b1)
  clear HE
  go_wp2_with fail
  have ba : RowKit.Below w1.heap.size w1 ((w1.alloc kobj).alloc pobj) := (by repeat (first | with_reducible assumption | with_reducible exact Below.refl _ _ | with_reducible refine Below.setCell ?_ (by first | exact Nat.le_refl _ | (simp; done) | (simp; omega)) _ | with_reducible refine bal ?_ _ | with_reducible refine Below.alloc ?_ (by first | exact Nat.le_refl _ | (simp; done) | (simp; omega)) _ | with_reducible refine Below.drew ?_))
  have hk := hide (fun j hj => cellLater (show RowKit.Below (w1.alloc kobj).heap.size (w1.alloc kobj) ((w1.alloc kobj).alloc pobj) from (by repeat (first | with_reducible assumption | with_reducible exact Below.refl _ _ | with_reducible refine Below.setCell ?_ (by first | exact Nat.le_refl _ | (simp; done) | (simp; omega)) _ | with_reducible refine bal ?_ _ | with_reducible refine Below.alloc ?_ (by first | exact Nat.le_refl _ | (simp; done) | (simp; omega)) _ | with_reducible refine Below.drew ?_))) (k_cells w1 j hj))
  have hp := hide (fun j hj => w_cells (w1.alloc kobj) j hj)
  have hsz : (w1.alloc kobj).heap.size = w1.heap.size + 1 := by simp
  rw [hsz] at hp
  generalize hw2 : (w1.alloc kobj).alloc pobj = w2 at *
  clear hw2 hsz
  have E2 := hide (E1.out.later ba)
  have hB2 := hide (step b1 ba)
  clear E1 ba b1
  refine (within3 _ _ _ (by omega) (by omega) (by omega) (by omega)).mono ?_
  rintro e w3 ⟨i, rfl, hi, -, rfl⟩
  have hi2 : i < 24 := by omega
  have ci := hk.out i hi2
  have cq := hide (hp.out i hi2)
  obtain ⟨l, e1, e2, e3, e4⟩ := good_of (k_read i hi2)
  have CP := hide (sparse_any (kt.getD i ⟨#[]⟩) w3 (Nat.le_trans (k_small i hi2).1 (by omega)) (ia_ascii _ (Nat.le_trans (k_small i hi2).1 (by omega)) (k_small i hi2).2) E2.out)
  rw [e1] at CP
  have CT : Hid (∀ (W : World) (ad : Option Addr) (cp : Nat), Env W → ERow ES W ad l.length l → Calls Tryz.prog 34 #[.slice ad l.length cp] W fun e w' => e = .returned (.string (kw.getD i ⟨#[]⟩)) ∧ RowKit.Below W.heap.size W w') := fun W ad cp hE h => by
    have := stext_any ad l.length cp l W h (by omega) e4 hE
    rw [e2] at this
    exact this
  clear e1 e2 e3 e4
  generalize kt.getD i ⟨#[]⟩ = si at *
  generalize kw.getD i ⟨#[]⟩ = wi at *
  generalize w1.heap.size = N at *
  have i1 : (0 : Int) ≤ (i : Int) := by omega
  have i2 : (i : Int) < 24 := by omega
  clear hk hp hi2 hi
  go_wp2_with fail
  refine CP.out.mono ?_
  rintro e w4 ⟨h4, b4⟩
  obtain ⟨v', h4, ho⟩ : ∃ v', e = .returned (.tuple #[v', .int .i64 0, .int .i64 0]) ∧ EOwn ES w4 w3.heap.size v' l := h4
  subst h4
  obtain ⟨ad, cp, rfl, _, _, hr⟩ := ho.any
  have HR := hide hr
  have HB4 := hide (step hB2.out b4)
  have E4 := hide (E2.out.later b4)
  have KQ : ∀ w', RowKit.Below w4.heap.size w4 w' → w'.cell? ⟨N + 1, i, none⟩ = some (.string wi) := fun w' h => cellLater (step b4 h) cq.out
  have hB0 := RowKit.Below.refl w4.heap.size w4
  clear CP ci cq ho hr b4
  generalize l.length = m at *
  go_wp2_with fail
  go_region_held3 (fun w' => RowKit.Below w4.heap.size w4 w') (first | assumption | exact (by repeat (first | with_reducible assumption | with_reducible exact Below.refl _ _ | with_reducible refine Below.setCell ?_ (by first | exact Nat.le_refl _ | (simp; done) | (simp; omega)) _ | with_reducible refine bal ?_ _ | with_reducible refine Below.alloc ?_ (by first | exact Nat.le_refl _ | (simp; done) | (simp; omega)) _ | with_reducible refine Below.drew ?_))) (first
    | (go_at_call 34; refine (CT.out _ _ _ (E4.out.later (by first | assumption | exact (by repeat (first | with_reducible assumption | with_reducible exact Below.refl _ _ | with_reducible refine Below.setCell ?_ (by first | exact Nat.le_refl _ | (simp; done) | (simp; omega)) _ | with_reducible refine bal ?_ _ | with_reducible refine Below.alloc ?_ (by first | exact Nat.le_refl _ | (simp; done) | (simp; omega)) _ | with_reducible refine Below.drew ?_)))) (HR.out.later (by first | assumption | exact (by repeat (first | with_reducible assumption | with_reducible exact Below.refl _ _ | with_reducible refine Below.setCell ?_ (by first | exact Nat.le_refl _ | (simp; done) | (simp; omega)) _ | with_reducible refine bal ?_ _ | with_reducible refine Below.alloc ?_ (by first | exact Nat.le_refl _ | (simp; done) | (simp; omega)) _ | with_reducible refine Below.drew ?_))))).mono ?_; rintro e w5 ⟨rfl, b5⟩; have b5 : RowKit.Below w4.heap.size w4 w5 := (by refine Below.trans ?_ (Below.mono b5 ?_); rotate_left; exact Below.size (by with_reducible assumption); with_reducible assumption)))
  rename_i hHeld
  go_wp2_with fail
  go_ret
  exact ⟨rfl, HB4.out.trans (hHeld.mono HB4.out.size)⟩

end Go.Proofs.YtmaklmgjkmbedaaGreatDoor.spanKnown
