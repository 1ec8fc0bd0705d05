/-
  The contracts of span's and the reference's operations as the laws use them: slices in, slices out.
-/
import Derived.Test.YtninheehoabbbaaGreatDoorQ4
import Derived.Test.YtninheehoabbbaaGreatDoorQ5
import Derived.Test.YtninheehoabbbaaGreatDoorK2
import Derived.Test.YtninheehoabbbaaGreatDoorM24
namespace Go.Proofs.YtninheehoabbbaaGreatDoor
set_option linter.unusedSimpArgs false
set_option linter.unusedVariables false
open Go.RowKit Go.Vr Go.Sort Go.Tx Go.Lib

/-- A slice of spans that is there, normed, not long. -/
structure SR (W : World) (ad : Option Addr) (n : Nat) (l : List Sp.S) (B : Nat) : Prop where
  r : ERow ES W ad n l
  row : Sp.Row l
  le : n ≤ B
theorem SR.later {W W' : World} {ad : Option Addr} {n B : Nat} {l : List Sp.S} (h : SR W ad n l B) (hb : RowKit.Below W.heap.size W W') : SR W' ad n l B := ⟨h.r.later hb, h.row, h.le⟩
theorem SR.of {W : World} {C : Nat} {v : Value} {l : List Sp.S} {B : Nat} (h : EOwn ES W C v l) (hr : Sp.Row l) (hb : l.length ≤ B) : ∃ ad n cp, v = .slice ad n cp ∧ SR W ad n l B := by
  obtain ⟨ad, cp, e, _, _, r⟩ := h.any
  exact ⟨ad, l.length, cp, e, r, hr, hb⟩
theorem SR.nil (W : World) (B : Nat) : SR W none 0 [] B := ⟨ERow.none W, Sp.Row.nil, by omega⟩
theorem SR.zero {W : World} {ad : Option Addr} {n B : Nat} (h : SR W ad n [] B) : n = 0 := h.r.n.symm

theorem not_sl (W : World) (he : Env W) (ad : Option Addr) (n cp : Nat) (l : List Sp.S) (B : Nat) (h : SR W ad n l B) (hB : B ≤ 1000) :
    Calls Tryz.prog 11 #[.slice ad n cp] W fun e w' => ∃ a2 n2 c2, e = .returned (.slice a2 n2 c2) ∧ SR w' a2 n2 (Sp.notL l) (B + 1) ∧ RowKit.Below W.heap.size W w' := by
  have hle := h.le
  have hn := h.r.n
  refine (not_any ad n cp l W h.r (by omega) h.row.ok he).mono ?_
  rintro e w' ⟨v', rfl, o, hb⟩
  obtain ⟨a2, n2, c2, rfl, h2⟩ := SR.of (B := B + 1) o h.row.not (by have := not_len l; omega)
  exact ⟨a2, n2, c2, rfl, h2, hb⟩
theorem and_sl (W : World) (he : Env W) (ad ad' : Option Addr) (n n' cp cp' : Nat) (l k : List Sp.S) (B B' : Nat) (h : SR W ad n l B) (h' : SR W ad' n' k B') (hB : B ≤ 1000) (hB' : B' ≤ 1000) :
    Calls Tryz.prog 14 #[.slice ad n cp, .slice ad' n' cp'] W fun e w' => ∃ a2 n2 c2, e = .returned (.slice a2 n2 c2) ∧ SR w' a2 n2 (Sp.allL [l, k]) (B + B' + 4) ∧ RowKit.Below W.heap.size W w' := by
  have hle := h.le
  have hle' := h'.le
  have hn := h.r.n
  have hn' := h'.r.n
  refine (and_any ad ad' n n' cp cp' l k W h.r h'.r (by omega) h.row.ok h'.row.ok he).mono ?_
  rintro e w' ⟨v', rfl, o, hb⟩
  have hlen : (Sp.allL [l, k]).length ≤ B + B' + 4 := by
    unfold Sp.allL
    have h1 := not_len (Sp.nrm ([l, k].flatMap Sp.notL))
    have h2 := nrm_len ([l, k].flatMap Sp.notL)
    have h3 : ([l, k].flatMap Sp.notL).length ≤ l.length + 1 + (k.length + 1) := by
      have e1 := not_len l
      have e2 := not_len k
      simp only [List.flatMap_cons, List.flatMap_nil, List.append_nil, List.length_append]
      omega
    omega
  obtain ⟨a2, n2, c2, rfl, h2⟩ := SR.of (B := B + B' + 4) o (h.row.and h'.row) hlen
  exact ⟨a2, n2, c2, rfl, h2, hb⟩
theorem or2_sl (W : World) (he : Env W) (ad ad' : Option Addr) (n n' cp cp' : Nat) (l k : List Sp.S) (B B' : Nat) (h : SR W ad n l B) (h' : SR W ad' n' k B') (hB : B ≤ 1000) (hB' : B' ≤ 1000) :
    Calls Tryz.prog 15 #[.slice (some ⟨W.heap.size, 0, none⟩) 2 2] (W.alloc (.cells #[.slice ad n cp, .slice ad' n' cp'] 28)) fun e w' => ∃ a2 n2 c2, e = .returned (.slice a2 n2 c2) ∧ SR w' a2 n2 (Sp.nrm [l, k].flatten) (B + B' + 1) ∧ RowKit.Below W.heap.size W w' := by
  have hle := h.le
  have hle' := h'.le
  have hn := h.r.n
  have hn' := h'.r.n
  have hb0 : RowKit.Below W.heap.size W (W.alloc (.cells #[.slice ad n cp, .slice ad' n' cp'] 28)) := (by repeat (first | with_reducible assumption | with_reducible exact Below.refl _ _ | with_reducible refine Below.setCell ?_ (by first | exact Nat.le_refl _ | (simp; done) | (simp; omega)) _ | with_reducible refine bal ?_ _ | with_reducible refine Below.alloc ?_ (by first | exact Nat.le_refl _ | (simp; done) | (simp; omega)) _ | with_reducible refine Below.drew ?_))
  have hrr := rrow2 (a := ⟨ad, n, cp⟩) (b := ⟨ad', n', cp'⟩) 28 h.r h'.r
  have hfl : [l, k].flatten.length = l.length + k.length := by simp
  refine (sor_any (some ⟨W.heap.size, 0, none⟩) 2 2 [l, k] _ hrr (by omega) (by omega) (Sp.ok_two h.row.ok h'.row.ok) (he.later hb0)).mono ?_
  rintro e w' ⟨v', rfl, o, hb⟩
  obtain ⟨a2, n2, c2, rfl, h2⟩ := SR.of (B := B + B' + 1) o (h.row.or h'.row) (by have := nrm_len [l, k].flatten; omega)
  exact ⟨a2, n2, c2, rfl, h2, step hb0 hb⟩
theorem rrow1 {W : World} {a : Sl} {l : List Sp.S} (T : TypeId) (h1 : ERow ES W a.a a.n l) :
    RRow (W.alloc (.cells #[a.val] T)) (some ⟨W.heap.size, 0, none⟩) 1 [l] := by
  have hb : RowKit.Below W.heap.size W (W.alloc (.cells #[a.val] T)) := (by repeat (first | with_reducible assumption | with_reducible exact Below.refl _ _ | with_reducible refine Below.setCell ?_ (by first | exact Nat.le_refl _ | (simp; done) | (simp; omega)) _ | with_reducible refine bal ?_ _ | with_reducible refine Below.alloc ?_ (by first | exact Nat.le_refl _ | (simp; done) | (simp; omega)) _ | with_reducible refine Below.drew ?_))
  refine ⟨[a], ⟨rfl, (fun e => nomatch e), fun x e j v hj => ?_⟩, h1.later hb, trivial⟩
  obtain rfl : ⟨W.heap.size, 0, .none⟩ = x := by simpa using e
  rw [addr_add, Nat.zero_add, (Box.new W _ T).c]
  simpa [El.encs, ER] using hj
theorem or1_sl (W : World) (he : Env W) (ad : Option Addr) (n cp : Nat) (l : List Sp.S) (B : Nat) (h : SR W ad n l B) (hB : B ≤ 1000) :
    Calls Tryz.prog 15 #[.slice (some ⟨W.heap.size, 0, none⟩) 1 1] (W.alloc (.cells #[.slice ad n cp] 28)) fun e w' => ∃ a2 n2 c2, e = .returned (.slice a2 n2 c2) ∧ SR w' a2 n2 l (B + 1) ∧ RowKit.Below W.heap.size W w' := by
  have hle := h.le
  have hn := h.r.n
  have hb0 : RowKit.Below W.heap.size W (W.alloc (.cells #[.slice ad n cp] 28)) := (by repeat (first | with_reducible assumption | with_reducible exact Below.refl _ _ | with_reducible refine Below.setCell ?_ (by first | exact Nat.le_refl _ | (simp; done) | (simp; omega)) _ | with_reducible refine bal ?_ _ | with_reducible refine Below.alloc ?_ (by first | exact Nat.le_refl _ | (simp; done) | (simp; omega)) _ | with_reducible refine Below.drew ?_))
  have hrr := rrow1 (a := ⟨ad, n, cp⟩) 28 h.r
  have hfl : [l].flatten = l := by simp
  refine (sor_any (some ⟨W.heap.size, 0, none⟩) 1 1 [l] _ hrr (by omega) (by rw [hfl]; omega) (by rw [hfl]; exact h.row.ok) (he.later hb0)).mono ?_
  rintro e w' ⟨v', rfl, o, hb⟩
  rw [Sp.or_one_row h.row] at o
  obtain ⟨a2, n2, c2, rfl, h2⟩ := SR.of (B := B + 1) o h.row (by omega)
  exact ⟨a2, n2, c2, rfl, h2, step hb0 hb⟩
theorem or0_sl (W : World) (he : Env W) :
    Calls Tryz.prog 15 #[.slice none 0 0] W fun e w' => ∃ a2 c2, e = .returned (.slice a2 0 c2) ∧ RowKit.Below W.heap.size W w' := by
  refine (sor_any none 0 0 [] W ⟨[], ERow.none W, trivial⟩ (by omega) (by simp) (fun _ h => nomatch h) he).mono ?_
  rintro e w' ⟨v', rfl, o, hb⟩
  obtain ⟨a2, c2, rfl, _, _, _⟩ := EOwn.any (l := []) (E := ES) (show EOwn ES w' W.heap.size v' [] from o)
  exact ⟨a2, c2, rfl, hb⟩
theorem same_sl (W : World) (ad ad' : Option Addr) (n n' cp cp' : Nat) (l k : List Sp.S) (B B' : Nat) (h : SR W ad n l B) (h' : SR W ad' n' k B') (hB : B ≤ 5000) (e : l = k) :
    Calls Tryz.prog 9 #[.slice ad n cp, .slice ad' n' cp'] W fun e w' => e = .returned (.bool true) ∧ RowKit.Below W.heap.size W w' := by
  have hle := h.le
  have := rsame_any ad ad' n n' cp cp' l k W h.r h'.r (by omega) h.row.ok h'.row.ok
  rw [decide_eq_true e] at this
  exact this
end Go.Proofs.YtninheehoabbbaaGreatDoor
