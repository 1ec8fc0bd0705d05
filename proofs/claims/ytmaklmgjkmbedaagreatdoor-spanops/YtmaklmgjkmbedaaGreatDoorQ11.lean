/-
  span's operations once more: what they answer is a row of their own; three rows at once; slices of versions.
-/
import Derived.Test.YtmaklmgjkmbedaaGreatDoorQ6
import Derived.Test.YtmaklmgjkmbedaaGreatDoorQ9
namespace Go.Proofs.YtmaklmgjkmbedaaGreatDoor
set_option linter.unusedSimpArgs false
set_option linter.unusedVariables false
open Go.RowKit Go.Vr Go.Sort Go.Tx Go.Lib
attribute [local go_sem] setCellDrewN allocDrewN

theorem mk_is_sl (a : Option Addr) (n cap : Nat) (zs : List Int) (w : World) (hr : Row .i64 w a n cap zs) :
    Calls Tryz.prog 15 #[.slice a n cap] w fun e w' => ∃ ad m cp, e = .returned (.slice ad m cp) ∧ SR w' ad m (mkL zs) 7 ∧ RowKit.Below w.heap.size w w' := by
  refine (mk3_is a n cap zs w hr).mono ?_
  rintro e w' ⟨v', rfl, o, hrw, hl, hb⟩
  obtain ⟨ad, m, cp, rfl, h⟩ := SR.of o hrw hl
  exact ⟨ad, m, cp, rfl, h, hb⟩
theorem or3_sl (W : World) (he : Env W) (ad ad' ad2 : Option Addr) (n n' n2 cp cp' cp2 : Nat) (l k m : List Sp.S) (B B' B2 : Nat) (h : SR W ad n l B) (h' : SR W ad' n' k B') (h2 : SR W ad2 n2 m B2) (hB : B ≤ 1000) (hB' : B' ≤ 1000) (hB2 : B2 ≤ 1000) :
    Calls Tryz.prog 17 #[.slice (some ⟨W.heap.size, 0, none⟩) 3 3] (W.alloc (.cells #[.slice ad n cp, .slice ad' n' cp', .slice ad2 n2 cp2] 24)) fun e w' => ∃ a2 n2 c2, e = .returned (.slice a2 n2 c2) ∧ SR w' a2 n2 (Sp.nrm [l, k, m].flatten) (B + B' + B2 + 1) ∧ RowKit.Below W.heap.size W w' := by
  have hle := h.le
  have hle' := h'.le
  have hle2 := h2.le
  have hn := h.r.n
  have hn' := h'.r.n
  have hn2 := h2.r.n
  have hb0 : RowKit.Below W.heap.size W (W.alloc (.cells #[.slice ad n cp, .slice ad' n' cp', .slice ad2 n2 cp2] 24)) := (by repeat (first | with_reducible assumption | with_reducible exact Below.refl _ _ | with_reducible refine Below.setCell ?_ (by first | exact Nat.le_refl _ | (simp; done) | (simp; omega)) _ | with_reducible refine bal ?_ _ | with_reducible refine Below.alloc ?_ (by first | exact Nat.le_refl _ | (simp; done) | (simp; omega)) _ | with_reducible refine Below.drew ?_))
  have hrr := rrow3 (a := ⟨ad, n, cp⟩) (b := ⟨ad', n', cp'⟩) (c := ⟨ad2, n2, cp2⟩) 24 h.r h'.r h2.r
  have hfl : [l, k, m].flatten.length = l.length + k.length + m.length := by simp; omega
  have hok := Sp.ok_three h.row.ok h'.row.ok h2.row.ok
  refine (sor_any (some ⟨W.heap.size, 0, none⟩) 3 3 [l, k, m] _ hrr (by omega) (by omega) hok (he.later hb0)).mono ?_
  rintro e w' ⟨v', rfl, o, hb⟩
  obtain ⟨a2, n2, c2, rfl, h2⟩ := SR.of (B := B + B' + B2 + 1) o (Sp.Row.nrm hok) (by have := nrm_len [l, k, m].flatten; omega)
  exact ⟨a2, n2, c2, rfl, h2, step hb0 hb⟩

/-- A row of spans that nobody else has. -/
def Mine (w : World) (B : Nat) (v : Value) : Prop := ∃ ad n cp xs, v = .slice ad n cp ∧ n ≤ 2000 ∧ w.ownsRow B 57 11 v n xs
theorem Mine.of {w : World} {B : Nat} {v : Value} {l : List Sp.S} (h : EOwn ES w B v l) (hl : l.length ≤ 2000) : Mine w B v := by
  obtain ⟨ad, cp, rfl, _, _, _⟩ := h.any
  exact ⟨ad, l.length, cp, _, rfl, hl, h⟩
theorem not_ow (W : World) (he : Env W) (ad : Option Addr) (n cp : Nat) (l : List Sp.S) (B : Nat) (h : SR W ad n l B) (hB : B ≤ 500) :
    Calls Tryz.prog 18 #[.slice ad n cp] W fun e w' => ∃ a2 n2 c2, e = .returned (.slice a2 n2 c2) ∧ Mine w' W.heap.size (.slice a2 n2 c2) ∧ RowKit.Below W.heap.size W w' := by
  have hle := h.le
  have hn := h.r.n
  refine (not_any ad n cp l W h.r (by omega) h.row.ok he).mono ?_
  rintro e w' ⟨v', rfl, o, hb⟩
  obtain ⟨a2, c2, rfl, _, _, _⟩ := o.any
  exact ⟨a2, _, c2, rfl, Mine.of o (by have := not_len l; omega), hb⟩
theorem and_ow (W : World) (he : Env W) (ad ad' : Option Addr) (n n' cp cp' : Nat) (l k : List Sp.S) (B B' : Nat) (h : SR W ad n l B) (h' : SR W ad' n' k B') (hB : B ≤ 500) (hB' : B' ≤ 500) :
    Calls Tryz.prog 16 #[.slice ad n cp, .slice ad' n' cp'] W fun e w' => ∃ a2 n2 c2, e = .returned (.slice a2 n2 c2) ∧ Mine w' W.heap.size (.slice a2 n2 c2) ∧ RowKit.Below W.heap.size W w' := by
  have hle := h.le
  have hle' := h'.le
  have hn := h.r.n
  have hn' := h'.r.n
  refine (and_any ad ad' n n' cp cp' l k W h.r h'.r (by omega) h.row.ok h'.row.ok he).mono ?_
  rintro e w' ⟨v', rfl, o, hb⟩
  have hlen : (Sp.allL [l, k]).length ≤ 2000 := by
    unfold Sp.allL
    have h1 := not_len (Sp.nrm ([l, k].flatMap Sp.notL))
    have h2 := nrm_len ([l, k].flatMap Sp.notL)
    have h3 : ([l, k].flatMap Sp.notL).length ≤ l.length + 1 + (k.length + 1) := by
      have e1 := not_len l
      have e2 := not_len k
      simp only [List.flatMap_cons, List.flatMap_nil, List.append_nil, List.length_append]
      omega
    omega
  obtain ⟨a2, c2, rfl, _, _, _⟩ := o.any
  exact ⟨a2, _, c2, rfl, Mine.of o hlen, hb⟩
theorem or2_ow (W : World) (he : Env W) (ad ad' : Option Addr) (n n' cp cp' : Nat) (l k : List Sp.S) (B B' : Nat) (h : SR W ad n l B) (h' : SR W ad' n' k B') (hB : B ≤ 500) (hB' : B' ≤ 500) :
    Calls Tryz.prog 17 #[.slice (some ⟨W.heap.size, 0, none⟩) 2 2] (W.alloc (.cells #[.slice ad n cp, .slice ad' n' cp'] 24)) fun e w' => ∃ a2 n2 c2, e = .returned (.slice a2 n2 c2) ∧ Mine w' W.heap.size (.slice a2 n2 c2) ∧ RowKit.Below W.heap.size W w' := by
  have hle := h.le
  have hle' := h'.le
  have hn := h.r.n
  have hn' := h'.r.n
  have hb0 : RowKit.Below W.heap.size W (W.alloc (.cells #[.slice ad n cp, .slice ad' n' cp'] 24)) := (by repeat (first | with_reducible assumption | with_reducible exact Below.refl _ _ | with_reducible refine Below.setCell ?_ (by first | exact Nat.le_refl _ | (simp; done) | (simp; omega)) _ | with_reducible refine bal ?_ _ | with_reducible refine Below.alloc ?_ (by first | exact Nat.le_refl _ | (simp; done) | (simp; omega)) _ | with_reducible refine Below.drew ?_))
  have hrr := rrow2 (a := ⟨ad, n, cp⟩) (b := ⟨ad', n', cp'⟩) 24 h.r h'.r
  have hfl : [l, k].flatten.length = l.length + k.length := by simp
  refine (sor_any (some ⟨W.heap.size, 0, none⟩) 2 2 [l, k] _ hrr (by omega) (by omega) (Sp.ok_two h.row.ok h'.row.ok) (he.later hb0)).mono ?_
  rintro e w' ⟨v', rfl, o, hb⟩
  obtain ⟨a2, c2, rfl, _, _, _⟩ := o.any
  exact ⟨a2, _, c2, rfl, Mine.of (o.base (by simp)) (by have := nrm_len [l, k].flatten; omega), step hb0 hb⟩
theorem or1_ow (W : World) (he : Env W) (ad : Option Addr) (n cp : Nat) (l : List Sp.S) (B : Nat) (h : SR W ad n l B) (hB : B ≤ 500) :
    Calls Tryz.prog 17 #[.slice (some ⟨W.heap.size, 0, none⟩) 1 1] (W.alloc (.cells #[.slice ad n cp] 24)) fun e w' => ∃ a2 n2 c2, e = .returned (.slice a2 n2 c2) ∧ Mine w' W.heap.size (.slice a2 n2 c2) ∧ RowKit.Below W.heap.size W w' := by
  have hle := h.le
  have hn := h.r.n
  have hb0 : RowKit.Below W.heap.size W (W.alloc (.cells #[.slice ad n cp] 24)) := (by repeat (first | with_reducible assumption | with_reducible exact Below.refl _ _ | with_reducible refine Below.setCell ?_ (by first | exact Nat.le_refl _ | (simp; done) | (simp; omega)) _ | with_reducible refine bal ?_ _ | with_reducible refine Below.alloc ?_ (by first | exact Nat.le_refl _ | (simp; done) | (simp; omega)) _ | with_reducible refine Below.drew ?_))
  have hrr := rrow1 (a := ⟨ad, n, cp⟩) 24 h.r
  have hfl : [l].flatten = l := by simp
  refine (sor_any (some ⟨W.heap.size, 0, none⟩) 1 1 [l] _ hrr (by omega) (by rw [hfl]; omega) (by rw [hfl]; exact h.row.ok) (he.later hb0)).mono ?_
  rintro e w' ⟨v', rfl, o, hb⟩
  obtain ⟨a2, c2, rfl, _, _, _⟩ := o.any
  exact ⟨a2, _, c2, rfl, Mine.of (o.base (by simp)) (by have := nrm_len [l].flatten; rw [hfl] at this ⊢; omega), step hb0 hb⟩
end Go.Proofs.YtmaklmgjkmbedaaGreatDoor
