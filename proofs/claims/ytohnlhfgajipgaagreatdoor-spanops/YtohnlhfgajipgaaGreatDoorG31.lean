/-
  What a law is told of its slices of integers.
  The laws of sets, at rows of spans.
  Contracts of the third law's Raw, Make.
  Contract of the reference's Same.
  The contracts of span's and the reference's operations as the laws use them: slices in, slices out.
-/
import Derived.Test.YtohnlhfgajipgaaGreatDoorG14
import Derived.OpenShut
import Derived.Test.YtohnlhfgajipgaaGreatDoorG28
import Derived.Test.YtohnlhfgajipgaaGreatDoorG30
import Derived.Test.YtohnlhfgajipgaaGreatDoorG18
import Derived.BigQuiet

namespace Go.Proofs.YtohnlhfgajipgaaGreatDoor
set_option linter.unusedSimpArgs false
set_option linter.unusedVariables false
open Go.RowKit Go.Tx Go.Joins Go.Vr

/-- A slice of integers that is there: its elements 'xs'. -/
structure Row (k : IntKind) (w : World) (a : Option Addr) (len cap : Nat) (xs : List Int) : Prop where
  n : xs.length = len
  nil : a = none → len = 0 ∧ cap = 0
  le : len ≤ cap
  mx : cap ≤ maxLen
  cell : ∀ x, a = some x → ∀ i, i < len → w.cell? (x.add i) = some (.int k (xs.getD i 0))
  wf : ∀ z ∈ xs, (Lit.int k z).wf = true

/-- A slice of integers that came in: nil, or a row of 'cap' cells. -/
def IsRow (k : IntKind) (w : World) (a : Option Addr) (len cap : Nat) (zs : List Int) : Prop :=
  (a = none ∧ len = 0 ∧ cap = 0 ∧ zs = []) ∨
  ∃ x, a = some x ∧ len ≤ cap ∧ cap ≤ maxLen ∧ zs.length = cap ∧ (∀ i, i < zs.length → w.cell? (x.add i) = some (.int k (zs.getD i 0))) ∧ ∀ n ∈ zs, (Lit.int k n).wf = true

theorem IsRow.row {k : IntKind} {w : World} {a : Option Addr} {len cap : Nat} {zs : List Int} (h : IsRow k w a len cap zs) : Row k w a len cap (zs.take len) := by
  rcases h with ⟨rfl, rfl, rfl, rfl⟩ | ⟨x, rfl, hl, hm, hz, hc, hw⟩
  · exact ⟨rfl, fun _ => ⟨rfl, rfl⟩, Nat.le_refl _, Nat.zero_le _, (fun x e => nomatch e), fun z hz => by simp at hz⟩
  · refine ⟨by simp; omega, (fun e => nomatch e), hl, hm, fun y e i hi => ?_, fun z hz2 => hw z (List.mem_of_mem_take hz2)⟩
    obtain rfl : x = y := by simpa using e
    rw [hc i (by omega)]
    simp [List.getD, hi]

theorem Row.later {k : IntKind} {w w' : World} {a : Option Addr} {len cap : Nat} {xs : List Int} (h : Row k w a len cap xs) (hb : Below w.heap.size w w') : Row k w' a len cap xs :=
  ⟨h.n, h.nil, h.le, h.mx, fun x e i hi => cellLater hb (h.cell x e i hi), h.wf⟩

theorem bd64 {n : Int} (h : (Lit.int .i64 n).wf = true) : -9223372036854775808 ≤ n ∧ n ≤ 9223372036854775807 := bounds_i64 h
end Go.Proofs.YtohnlhfgajipgaaGreatDoor

namespace Go.Sp
set_option linter.unusedVariables false
open Go.Vr Go.Tx

/-- A row that may be, normed. -/
structure Row (l : List S) : Prop where
  nm : Normed l
  ok : okL l
theorem Row.nil : Row [] := ⟨trivial, fun _ h => nomatch h⟩
theorem Row.nrm {l : List S} (h : okL l) : Row (nrm l) := ⟨nrm_nm l, ok_nrm h⟩
theorem Row.not {l : List S} (h : Row l) : Row (notL l) := ⟨not_nm h.nm, ok_not h.ok⟩
theorem ok_two {a b : List S} (ha : okL a) (hb : okL b) : okL [a, b].flatten := by
  intro s hs
  simp only [List.flatten_cons, List.flatten_nil, List.append_nil, List.mem_append] at hs
  exact hs.elim (ha s) (hb s)
theorem ok_three {a b c : List S} (ha : okL a) (hb : okL b) (hc : okL c) : okL [a, b, c].flatten := by
  intro s hs
  simp only [List.flatten_cons, List.flatten_nil, List.append_nil, List.mem_append] at hs
  exact hs.elim (ha s) fun h => h.elim (hb s) (hc s)
theorem Row.or {a b : List S} (ha : Row a) (hb : Row b) : Row (Sp.nrm [a, b].flatten) := Row.nrm (ok_two ha.ok hb.ok)
theorem mem_two {P : List S → Prop} {a b : List S} (ha : P a) (hb : P b) : ∀ l ∈ [a, b], P l := by
  intro l hl
  rcases List.mem_cons.1 hl with rfl | hl
  · exact ha
  · rw [List.mem_singleton.1 hl]; exact hb
theorem Row.and {a b : List S} (ha : Row a) (hb : Row b) : Row (allL [a, b]) := ⟨all_nm _, ok_all (mem_two ha.ok hb.ok)⟩
/-- Between the first version and the end. -/
def InR (x : C) : Prop := cmpC start x ≤ 0 ∧ cmpC x none < 0
theorem Row.range {a : List S} (h : Row a) {x : C} (k : Has a x) : InR x := has_range h.ok k
theorem has_not {a : List S} (h : Row a) (x : C) : Has (notL a) x ↔ InR x ∧ ¬ Has a x := by rw [not_has h.nm h.ok]; unfold InR; exact ⟨fun ⟨p, q, r⟩ => ⟨⟨p, q⟩, r⟩, fun ⟨⟨p, q⟩, r⟩ => ⟨p, q, r⟩⟩
theorem has_or (a b : List S) (x : C) : Has (Sp.nrm [a, b].flatten) x ↔ Has a x ∨ Has b x := by
  rw [nrm_has, has_flat]
  constructor
  · rintro ⟨l, hl, h⟩
    rcases List.mem_cons.1 hl with rfl | hl
    · exact .inl h
    · rw [List.mem_singleton.1 hl] at h; exact .inr h
  · rintro (h | h)
    · exact ⟨a, by simp, h⟩
    · exact ⟨b, by simp, h⟩
theorem has_or3 (a b c : List S) (x : C) : Has (Sp.nrm [a, b, c].flatten) x ↔ Has a x ∨ Has b x ∨ Has c x := by
  rw [nrm_has, has_flat]
  constructor
  · rintro ⟨l, hl, h⟩
    rcases List.mem_cons.1 hl with rfl | hl
    · exact .inl h
    · rcases List.mem_cons.1 hl with rfl | hl
      · exact .inr (.inl h)
      · rw [List.mem_singleton.1 hl] at h; exact .inr (.inr h)
  · rintro (h | h | h)
    · exact ⟨a, by simp, h⟩
    · exact ⟨b, by simp, h⟩
    · exact ⟨c, by simp, h⟩
theorem has_and {a b : List S} (ha : Row a) (hb : Row b) (x : C) : Has (allL [a, b]) x ↔ Has a x ∧ Has b x := by
  rw [all_has (mem_two ha.nm hb.nm) (mem_two ha.ok hb.ok)]
  constructor
  · rintro ⟨_, _, h⟩; exact ⟨h a (by simp), h b (by simp)⟩
  · rintro ⟨h, k⟩; exact ⟨(ha.range h).1, (ha.range h).2, mem_two (P := fun l => Has l x) h k⟩
theorem row_eq {a b : List S} (ha : Row a) (hb : Row b) (h : ∀ x, Has a x ↔ Has b x) : a = b := unique ord_cut a b ha.nm hb.nm h
open Classical in
theorem not_not_row {a : List S} (h : Row a) : notL (notL a) = a := row_eq h.not.not h fun x => by
  rw [has_not h.not, has_not h]
  constructor
  · rintro ⟨r, k⟩; exact Classical.byContradiction fun n => k ⟨r, n⟩
  · intro k; exact ⟨h.range k, fun n => n.2 k⟩
theorem not_or_row {a b : List S} (ha : Row a) (hb : Row b) : notL (Sp.nrm [a, b].flatten) = allL [notL a, notL b] := row_eq (ha.or hb).not (ha.not.and hb.not) fun x => by
  rw [has_not (ha.or hb), has_and ha.not hb.not, has_or, has_not ha, has_not hb]
  constructor
  · rintro ⟨r, k⟩; exact ⟨⟨r, fun h => k (.inl h)⟩, r, fun h => k (.inr h)⟩
  · rintro ⟨⟨r, k⟩, _, m⟩; exact ⟨r, fun h => h.elim k m⟩
theorem and_or_row {a b c : List S} (ha : Row a) (hb : Row b) (hc : Row c) : allL [a, Sp.nrm [b, c].flatten] = Sp.nrm [allL [a, b], allL [a, c]].flatten := row_eq (ha.and (hb.or hc)) ((ha.and hb).or (ha.and hc)) fun x => by
  rw [has_and ha (hb.or hc), has_or, has_or, has_and ha hb, has_and ha hc]
  constructor
  · rintro ⟨h, k | k⟩
    · exact .inl ⟨h, k⟩
    · exact .inr ⟨h, k⟩
  · rintro (⟨h, k⟩ | ⟨h, k⟩)
    · exact ⟨h, .inl k⟩
    · exact ⟨h, .inr k⟩
theorem or_not_row {a : List S} (ha : Row a) : Sp.nrm [a, notL a].flatten = notL [] := row_eq (ha.or ha.not) Row.nil.not fun x => by
  rw [has_or, has_not ha, has_not Row.nil]
  constructor
  · rintro (h | h)
    · exact ⟨ha.range h, in_nil x⟩
    · exact ⟨h.1, in_nil x⟩
  · rintro ⟨r, _⟩
    by_cases h : Has a x
    · exact .inl h
    · exact .inr ⟨r, h⟩
theorem and_not_row {a : List S} (ha : Row a) : allL [a, notL a] = [] := row_eq (ha.and ha.not) Row.nil fun x => by
  rw [has_and ha ha.not, has_not ha]
  exact ⟨fun h => absurd h.1 h.2.2, fun h => absurd h (in_nil x)⟩
theorem or_one_row {a : List S} (ha : Row a) : Sp.nrm [a].flatten = a := by
  have e : [a].flatten = a := by simp
  rw [e]; exact nrm_same ha.nm
theorem or_none : Sp.nrm ([] : List (List S)).flatten = [] := rfl
theorem or_comm_row {a b : List S} (ha : Row a) (hb : Row b) : Sp.nrm [b, a].flatten = Sp.nrm [a, b].flatten := row_eq (hb.or ha) (ha.or hb) fun x => by
  rw [has_or, has_or]; exact or_comm
/-- As the reference writes them. -/
theorem or_app {a b : List S} : Sp.nrm (a ++ b) = Sp.nrm [a, b].flatten := by
  have e : [a, b].flatten = a ++ b := by simp
  rw [e]
theorem or_or {a b c : List S} (ha : Row a) (hb : Row b) (hc : Row c) : Sp.nrm (Sp.nrm (a ++ b) ++ c) = Sp.nrm [a, b, c].flatten := by
  rw [or_app, or_app]
  refine row_eq ((ha.or hb).or hc) (Row.nrm (ok_three ha.ok hb.ok hc.ok)) fun x => ?_
  rw [has_or, has_or, has_or3, or_assoc]
theorem and_ref (a b : List S) : notL (Sp.nrm (notL a ++ notL b)) = allL [a, b] := by
  unfold allL
  have e : [a, b].flatMap notL = notL a ++ notL b := by simp
  rw [e]
end Go.Sp

namespace Go.Proofs.YtohnlhfgajipgaaGreatDoor
set_option linter.unusedSimpArgs false
set_option linter.unusedVariables false
open Go.RowKit Go.Vr Go.Sort Go.Tx Go.Lib
attribute [local go_sem] setCellDrewN allocDrewN

theorem ERow.newP (w : World) (x : Pt) (T : TypeId) (n : Nat) (h : n = w.heap.size) : ERow EP (w.alloc (.cells x.row.toArray T)) (some ⟨n, 0, .none⟩) 1 [x] := by subst h; exact ERow.new EP w x T
theorem okp_app {ps : List Pt} {v u : V} {x y z : Bool} (h : ∀ q ∈ ps, okPt q) (hv : v.ok = true) (hu : u.ok = true) : ∀ q ∈ ps ++ [⟨v.a, v.b, v.c, v.p, u.a, u.b, u.c, u.p, x, y, z⟩], okPt q := by
  intro q hq
  rcases List.mem_append.1 hq with hq | hq
  · exact h q hq
  · rw [List.mem_singleton.1 hq]; exact ⟨hv, hu⟩

set_option maxHeartbeats 8000000 in
set_option maxRecDepth 100000 in
theorem raw_any (a : Option Addr) (n cap : Nat) (zs : List Int) (w : World) (hr : Row .i64 w a n cap zs) :
    Calls Tryz.prog 38 #[.slice a n cap] w fun e w' => ∃ v' ps, e = .returned v' ∧ EOwn EP w' w.heap.size v' ps ∧ (∀ q ∈ ps, okPt q) ∧ ps.length ≤ 6 ∧ RowKit.Below w.heap.size w w' := by
  have HR := hide hr
  clear hr
  have CM : Hid (∀ (x y : Int) (W : World), (-9223372036854775808 ≤ x ∧ x ≤ 9223372036854775807) → (-9223372036854775808 ≤ y ∧ y ≤ 9223372036854775807) → Calls Tryz.prog 32 #[.int .i64 x, .int .i64 y] W fun e w' => ∃ v : V, e = .returned (val v) ∧ v.ok = true ∧ RowKit.Below W.heap.size W w') := fun x y W h1 h2 => make_any x y W h1 h2
  go_enter Tryz.func38, Tryz.ntmps38
  go_wp2_with fail
  go_loopw [3, 4] (fun s i wr => ∃ (k : Nat) (ps : List Pt), k ≤ n ∧ k ≤ 6 ∧ i = .int .i64 k ∧ EOwn EP wr w.heap.size s ps ∧ ps.length ≤ k ∧ RowKit.Below w.heap.size w wr ∧ Hid (∀ q ∈ ps, okPt q)) (fun _ i _ => 6 - (RowKit.intOf i).toNat)
  case atStart => exact ⟨0, [], by omega, by omega, rfl, EOwn.nil _ _, by simp, RowKit.Below.refl _ _, fun _ h => nomatch h⟩
  case round =>
    obtain ⟨k, ps, hk, hk6, rfl, o1, hpl, hB, HOK⟩ := hrel
    have HO1 := hide o1
    have HB := hide hB
    have HPL := hide hpl
    clear o1 hB hpl
    by_cases hlt : k < n
    · have d1 : decide ((k : Int) < (n : Int)) = true := by simp; omega
      by_cases h6 : k < 6
      · have d2 : decide ((k : Int) < 6) = true := by simp; omega
        have hrl := HR.out.later HB.out
        have hn := HR.out.n
        cases a with
        | none => have := HR.out.nil rfl; omega
        | some x =>
          obtain ⟨b, off, spot⟩ := x
          have hspot : spot = none := by simpa [Addr.add] using World.cell?_spot (hrl.cell _ rfl 0 (by omega))
          subst hspot
          have hc := hrl.cell _ rfl k hlt
          rw [addr_add] at hc
          have hz := bd64 (hrl.wf (zs.getD k 0) (by rw [List.getD_eq_getElem?_getD, List.getElem?_eq_getElem (by omega)]; exact List.getElem_mem _))
          generalize zs.getD k 0 = z at *
          obtain ⟨z1, z2⟩ := hz
          have i1 : (0 : Int) ≤ (k : Int) := by omega
          have i2 : (k : Int) < (n : Int) := by omega
          have CW : Hid (∀ W, Calls Tryz.prog 29 #[.int .i64 z, .int .i64 1125899906842624] W fun e w' => ∃ j : Nat, e = .returned (.int .i64 j) ∧ (j : Int) < 1125899906842624 ∧ Hid ((j : Int) = z % 1125899906842624) ∧ w' = W) := fun W => within3 z 1125899906842624 W (by omega) (by omega) z1 z2
          clear hrl z1 z2
          go_wp2_with fail
          refine (CW.out _).mono ?_
          rintro e w1 ⟨j, rfl, hj, -, rfl⟩
          have j0 : (0 : Int) ≤ (j : Int) := by omega
          generalize (j : Int) = J at *
          have e7 : (0 : Int) ≤ J / 7 ∧ J / 7 ≤ 1125899906842624 := by omega
          have e11 : (0 : Int) ≤ J / 11 ∧ J / 11 ≤ 1125899906842624 := by omega
          have e13 : (0 : Int) ≤ J / 13 ∧ J / 13 ≤ 1125899906842624 := by omega
          clear CW hc
          go_wp2_with fail
          refine (CM.out _ _ _ (by omega) (by omega)).mono ?_
          rintro e w2 ⟨v0, rfl, ok0, b2⟩
          go_wp2_with fail
          refine (CM.out _ _ _ (by omega) (by omega)).mono ?_
          rintro e w3 ⟨v1, rfl, ok1, b3⟩
          have HB3 := hide (step (step HB.out b2) b3)
          have HO3 := hide ((HO1.out.later b2).later b3)
          have HV := hide (And.intro ok0 ok1)
          clear HO1 HB b2 b3 ok0 ok1 e7 e11 e13
          go_upto_if 46 with fail
          generalize (J % 2 == 0) = x at *
          generalize (J / 2 % 2 == 0) = y at *
          generalize (J / 4 % 7 == 0) = zz at *
          generalize (J / 28 % 4 == 0) = sw at *
          cases sw with
          | true =>
            go_wp2_with (refine wpList_eapp EP rfl _ _ rfl w.heap.size _ ps (some _) 1 1 [⟨v0.a, v0.b, v0.c, v0.p, v0.a, v0.b, v0.c, v0.p, x, y, zz⟩] rfl rfl (HO3.out.later (by repeat (first | with_reducible assumption | with_reducible exact Below.refl _ _ | with_reducible refine Below.setCell ?_ (by first | exact Nat.le_refl _ | (simp; done) | (simp; omega)) _ | with_reducible refine bal ?_ _ | with_reducible refine Below.alloc ?_ (by first | exact Nat.le_refl _ | (simp; done) | (simp; omega)) _ | with_reducible refine Below.drew ?_))) (ERow.newP _ ⟨v0.a, v0.b, v0.c, v0.p, v0.a, v0.b, v0.c, v0.p, x, y, zz⟩ _ _ (by simp)) (by have := HPL.out; simp; omega) (by have := HB3.out.size; simp; omega) ?_; intro v4 w4 o4 g4 t4)
            go_roundw
            case rel => exact ⟨k + 1, ps ++ [⟨v0.a, v0.b, v0.c, v0.p, v0.a, v0.b, v0.c, v0.p, x, y, zz⟩], by omega, by omega, by go_num, o4, (by have := HPL.out; simp; omega), own_bel (step HB3.out ((by repeat (first | with_reducible assumption | with_reducible exact Below.refl _ _ | with_reducible refine Below.setCell ?_ (by first | exact Nat.le_refl _ | (simp; done) | (simp; omega)) _ | with_reducible refine bal ?_ _ | with_reducible refine Below.alloc ?_ (by first | exact Nat.le_refl _ | (simp; done) | (simp; omega)) _ | with_reducible refine Below.drew ?_)))) (HO3.out.later (by repeat (first | with_reducible assumption | with_reducible exact Below.refl _ _ | with_reducible refine Below.setCell ?_ (by first | exact Nat.le_refl _ | (simp; done) | (simp; omega)) _ | with_reducible refine bal ?_ _ | with_reducible refine Below.alloc ?_ (by first | exact Nat.le_refl _ | (simp; done) | (simp; omega)) _ | with_reducible refine Below.drew ?_))) g4 (by have := HB3.out.size; simp; omega), hide (okp_app HOK.out HV.out.1 HV.out.1)⟩
            case measure => simp [RowKit.intOf]; omega
          | false =>
            go_wp2_with (refine wpList_eapp EP rfl _ _ rfl w.heap.size _ ps (some _) 1 1 [⟨v0.a, v0.b, v0.c, v0.p, v1.a, v1.b, v1.c, v1.p, x, y, zz⟩] rfl rfl (HO3.out.later (by repeat (first | with_reducible assumption | with_reducible exact Below.refl _ _ | with_reducible refine Below.setCell ?_ (by first | exact Nat.le_refl _ | (simp; done) | (simp; omega)) _ | with_reducible refine bal ?_ _ | with_reducible refine Below.alloc ?_ (by first | exact Nat.le_refl _ | (simp; done) | (simp; omega)) _ | with_reducible refine Below.drew ?_))) (ERow.newP _ ⟨v0.a, v0.b, v0.c, v0.p, v1.a, v1.b, v1.c, v1.p, x, y, zz⟩ _ _ (by simp)) (by have := HPL.out; simp; omega) (by have := HB3.out.size; simp; omega) ?_; intro v4 w4 o4 g4 t4)
            go_roundw
            case rel => exact ⟨k + 1, ps ++ [⟨v0.a, v0.b, v0.c, v0.p, v1.a, v1.b, v1.c, v1.p, x, y, zz⟩], by omega, by omega, by go_num, o4, (by have := HPL.out; simp; omega), own_bel (step HB3.out ((by repeat (first | with_reducible assumption | with_reducible exact Below.refl _ _ | with_reducible refine Below.setCell ?_ (by first | exact Nat.le_refl _ | (simp; done) | (simp; omega)) _ | with_reducible refine bal ?_ _ | with_reducible refine Below.alloc ?_ (by first | exact Nat.le_refl _ | (simp; done) | (simp; omega)) _ | with_reducible refine Below.drew ?_)))) (HO3.out.later (by repeat (first | with_reducible assumption | with_reducible exact Below.refl _ _ | with_reducible refine Below.setCell ?_ (by first | exact Nat.le_refl _ | (simp; done) | (simp; omega)) _ | with_reducible refine bal ?_ _ | with_reducible refine Below.alloc ?_ (by first | exact Nat.le_refl _ | (simp; done) | (simp; omega)) _ | with_reducible refine Below.drew ?_))) g4 (by have := HB3.out.size; simp; omega), hide (okp_app HOK.out HV.out.1 HV.out.2)⟩
            case measure => simp [RowKit.intOf]; omega
      · have d2 : decide ((k : Int) < 6) = false := by simp; omega
        go_wp2_with fail
        go_ret
        exact ⟨_, ps, rfl, HO1.out, HOK.out, by have := HPL.out; omega, HB.out⟩
    · have d1 : decide ((k : Int) < (n : Int)) = false := by simp; omega
      go_wp2_with fail
      go_ret
      exact ⟨_, ps, rfl, HO1.out, HOK.out, by have := HPL.out; omega, HB.out⟩

set_option maxHeartbeats 1000000 in
theorem mk3_any (a : Option Addr) (n cap : Nat) (zs : List Int) (w : World) (hr : Row .i64 w a n cap zs) :
    Calls Tryz.prog 15 #[.slice a n cap] w fun e w' => ∃ v' l, e = .returned v' ∧ EOwn ES w' w.heap.size v' l ∧ Sp.Row l ∧ l.length ≤ 7 ∧ RowKit.Below w.heap.size w w' := by
  have CR := hide (raw_any a n cap zs w hr)
  clear hr
  go_enter Tryz.func15, Tryz.ntmps15
  go_wp2_with fail
  refine CR.out.mono ?_
  rintro e w1 ⟨v1, ps, rfl, o1, ok1, hl, b1⟩
  obtain ⟨ad, cp, rfl, _, _, r1⟩ := o1.any
  have CN := hide (rnorm_any ad ps.length cp ps w1 r1 (by omega) ok1)
  have hnl : (Sp.nrm (ps.map pS)).length ≤ 7 := by have := nrm_len (ps.map pS); rw [List.length_map] at this; omega
  have hrw : Sp.Row (Sp.nrm (ps.map pS)) := Sp.Row.nrm (by
    intro s hs
    obtain ⟨q, hq, rfl⟩ := List.mem_map.1 hs
    exact pS_ok (ok1 q hq))
  have HNL := hide hnl
  have HRW := hide hrw
  have hb1 := hide b1
  clear CR o1 r1 ok1 hl hnl hrw b1
  generalize ps.length = m at *
  generalize Sp.nrm (ps.map pS) = l at *
  go_wp2_with fail
  refine CN.out.mono ?_
  rintro e w2 ⟨v2, rfl, o2, b2⟩
  clear CN
  go_wp2_with fail
  go_ret
  exact ⟨_, l, rfl, o2.base hb1.out.size, HRW.out, HNL.out, step hb1.out b2⟩
end Go.Proofs.YtohnlhfgajipgaaGreatDoor

namespace Go.Proofs.YtohnlhfgajipgaaGreatDoor
set_option linter.unusedSimpArgs false
set_option linter.unusedVariables false
open Go.RowKit Go.Vr Go.Sort Go.Tx Go.Lib
attribute [local go_sem] setCellDrewN allocDrewN

theorem pt_inj {s t : Sp.S} (hs : Sp.okS s) (ht : Sp.okS t) (h : pt s = pt t) : s = t := by rw [← pS_pt hs, ← pS_pt ht, h]

theorem bytes_inj {s t : ByteArray} (h : s.toList = t.toList) : s = t := by rw [toList_data, toList_data] at h; exact ba_ext h
theorem ne_cases {q r : Pt} (h : ¬ q = r) : (¬ q.a = r.a) ∨ (q.a = r.a ∧ ¬ q.b = r.b) ∨ (q.a = r.a ∧ q.b = r.b ∧ ¬ q.c = r.c) ∨ (q.a = r.a ∧ q.b = r.b ∧ q.c = r.c ∧ ¬ q.p.toList = r.p.toList) ∨ (q.a = r.a ∧ q.b = r.b ∧ q.c = r.c ∧ q.p.toList = r.p.toList ∧ ¬ q.a' = r.a') ∨ (q.a = r.a ∧ q.b = r.b ∧ q.c = r.c ∧ q.p.toList = r.p.toList ∧ q.a' = r.a' ∧ ¬ q.b' = r.b') ∨ (q.a = r.a ∧ q.b = r.b ∧ q.c = r.c ∧ q.p.toList = r.p.toList ∧ q.a' = r.a' ∧ q.b' = r.b' ∧ ¬ q.c' = r.c') ∨ (q.a = r.a ∧ q.b = r.b ∧ q.c = r.c ∧ q.p.toList = r.p.toList ∧ q.a' = r.a' ∧ q.b' = r.b' ∧ q.c' = r.c' ∧ ¬ q.p'.toList = r.p'.toList) ∨ (q.a = r.a ∧ q.b = r.b ∧ q.c = r.c ∧ q.p.toList = r.p.toList ∧ q.a' = r.a' ∧ q.b' = r.b' ∧ q.c' = r.c' ∧ q.p'.toList = r.p'.toList ∧ ¬ q.x = r.x) ∨ (q.a = r.a ∧ q.b = r.b ∧ q.c = r.c ∧ q.p.toList = r.p.toList ∧ q.a' = r.a' ∧ q.b' = r.b' ∧ q.c' = r.c' ∧ q.p'.toList = r.p'.toList ∧ q.x = r.x ∧ ¬ q.y = r.y) ∨ (q.a = r.a ∧ q.b = r.b ∧ q.c = r.c ∧ q.p.toList = r.p.toList ∧ q.a' = r.a' ∧ q.b' = r.b' ∧ q.c' = r.c' ∧ q.p'.toList = r.p'.toList ∧ q.x = r.x ∧ q.y = r.y ∧ ¬ q.z = r.z) := by
  refine Classical.byContradiction fun n => h ?_
  simp only [not_or, not_and, Classical.not_not] at n
  obtain ⟨n0, n1, n2, n3, n4, n5, n6, n7, n8, n9, n10⟩ := n
  have e1 := n1 n0
  have e2 := n2 n0 e1
  have e3 := n3 n0 e1 e2
  have e4 := n4 n0 e1 e2 e3
  have e5 := n5 n0 e1 e2 e3 e4
  have e6 := n6 n0 e1 e2 e3 e4 e5
  have e7 := n7 n0 e1 e2 e3 e4 e5 e6
  have e8 := n8 n0 e1 e2 e3 e4 e5 e6 e7
  have e9 := n9 n0 e1 e2 e3 e4 e5 e6 e7 e8
  have e10 := n10 n0 e1 e2 e3 e4 e5 e6 e7 e8 e9
  have p3 := bytes_inj e3
  have p7 := bytes_inj e7
  cases q
  cases r
  simp only [Pt.mk.injEq]
  exact ⟨n0, e1, e2, p3, e4, e5, e6, p7, e8, e9, e10⟩

set_option maxHeartbeats 8000000 in
set_option maxRecDepth 100000 in
theorem rsame_any (a b : Option Addr) (n m cn cm : Nat) (l k : List Sp.S) (w : World) (hl : ERow ES w a n l) (hk : ERow ES w b m k) (hn : n ≤ 10000) (ho : Sp.okL l) (ho2 : Sp.okL k) :
    Calls Tryz.prog 19 #[.slice a n cn, .slice b m cm] w fun e w' => e = .returned (.bool (decide (l = k))) ∧ RowKit.Below w.heap.size w w' := by
  have HL := hide hl
  have HK := hide hk
  have hln := hl.n
  have hkn := hk.n
  clear hl hk
  by_cases hnm : n = m
  · subst hnm
    go_enter Tryz.func19, Tryz.ntmps19
    go_wp2_with fail
    go_loopw [5] (fun i wr => ∃ j : Nat, j ≤ n ∧ i = .int .i64 j ∧ Hid (l.take j = k.take j) ∧ RowKit.Below w.heap.size w wr) (fun i _ => n - (RowKit.intOf i).toNat)
    case atStart => exact ⟨0, by omega, rfl, rfl, RowKit.Below.refl _ _⟩
    case round =>
      obtain ⟨j, hj, rfl, HT, hB⟩ := hrel
      by_cases hlt : j < n
      · obtain ⟨g, off, rfl⟩ := HL.out.spot (by omega)
        obtain ⟨g2, off2, rfl⟩ := HK.out.spot (by omega)
        have h1 : j < l.length := by omega
        have h2 : j < k.length := by omega
        obtain ⟨d0, d1, d2, d3, d4, d5, d6, d7, d8, d9, d10⟩ := ES_at (HL.out.later hB) j l[j] (List.getElem?_eq_getElem h1)
        obtain ⟨f0, f1, f2, f3, f4, f5, f6, f7, f8, f9, f10⟩ := ES_at (HK.out.later hB) j k[j] (List.getElem?_eq_getElem h2)
        have hp := @pt_inj l[j] k[j] (ho _ (List.getElem_mem h1)) (ho2 _ (List.getElem_mem h2))
        have HT1 : Hid (l.take (j + 1) = l.take j ++ [l[j]]) := List.take_succ_eq_append_getElem h1
        have HT2 : Hid (k.take (j + 1) = k.take j ++ [k[j]]) := List.take_succ_eq_append_getElem h2
        have HG1 : Hid (l[j]? = some l[j]) := List.getElem?_eq_getElem h1
        have HG2 : Hid (k[j]? = some k[j]) := List.getElem?_eq_getElem h2
        generalize l[j] = x at *
        generalize k[j] = y at *
        have i1 : (0 : Int) ≤ (j : Int) := by omega
        have i2 : (j : Int) < (n : Int) := by omega
        by_cases hxy : pt x = pt y
        · have HXY : Hid (x = y) := hp hxy
          rw [← hxy] at f0 f1 f2 f3 f4 f5 f6 f7 f8 f9 f10
          clear hp hxy
          generalize pt x = q at *
          generalize pt y = q2 at *
          go_wp2_with fail
          go_quiet (fail)
          go_wp2_with fail
          go_roundw
          case rel => exact ⟨j + 1, by omega, by go_num, (show l.take (j + 1) = k.take (j + 1) by rw [HT1.out, HT2.out, HT.out, HXY.out]), step hB (belDrewN _ _)⟩
          case measure => simp [RowKit.intOf]; omega
        · have HNE : Hid (l ≠ k) := fun e => by
            have h3 := HG1.out
            rw [e, HG2.out] at h3
            exact hxy (by rw [Option.some.inj h3])
          clear hp
          have hcs := ne_cases hxy
          clear hxy
          generalize pt x = q at *
          generalize pt y = q2 at *
          rcases hcs with c0 | ⟨c0, c1⟩ | ⟨c0, c1, c2⟩ | ⟨c0, c1, c2, c3⟩ | ⟨c0, c1, c2, c3, c4⟩ | ⟨c0, c1, c2, c3, c4, c5⟩ | ⟨c0, c1, c2, c3, c4, c5, c6⟩ | ⟨c0, c1, c2, c3, c4, c5, c6, c7⟩ | ⟨c0, c1, c2, c3, c4, c5, c6, c7, c8⟩ | ⟨c0, c1, c2, c3, c4, c5, c6, c7, c8, c9⟩ | ⟨c0, c1, c2, c3, c4, c5, c6, c7, c8, c9, c10⟩
          all_goals
            go_wp2_with fail
            go_quiet (fail)
            go_wp2_with fail
            go_ret
            exact ⟨ret_b (by rw [decide_eq_false HNE.out]), step hB (belDrewN _ _)⟩
      · have hd : decide ((j : Int) < (n : Int)) = false := by simp; omega
        have HE : Hid (l = k) := by
          have := HT.out
          rw [List.take_of_length_le (by omega), List.take_of_length_le (by omega)] at this
          exact this
        go_wp2_with fail
        go_ret
        exact ⟨ret_b (by rw [decide_eq_true HE.out]), hB⟩
  · have hne : l ≠ k := fun e => hnm (by rw [← hln, ← hkn, e])
    have HNE := hide hne
    have hd : ((n : Int) != (m : Int)) = true := by simp; omega
    have hd2 : ¬ (n : Int) = (m : Int) := by omega
    clear hne
    go_enter Tryz.func19, Tryz.ntmps19
    go_wp2_with fail
    go_ret
    exact ⟨ret_b (by rw [decide_eq_false HNE.out]), RowKit.Below.refl _ _⟩
end Go.Proofs.YtohnlhfgajipgaaGreatDoor

namespace Go.Proofs.YtohnlhfgajipgaaGreatDoor
set_option linter.unusedSimpArgs false
set_option linter.unusedVariables false
open Go.RowKit Go.Vr Go.Sort Go.Tx Go.Lib

/-- A slice of spans that is there, normed, not long. -/
structure SR (W : World) (ad : Option Addr) (n : Nat) (l : List Sp.S) (B : Nat) : Prop where
  r : ERow ES W ad n l
  row : Sp.Row l
  le : n ≤ B
theorem SR.later {W W' : World} {ad : Option Addr} {n B : Nat} {l : List Sp.S} (h : SR W ad n l B) (hb : RowKit.Below W.heap.size W W') : SR W' ad n l B := ⟨h.r.later hb, h.row, h.le⟩
theorem SR.of {W : World} {C : Nat} {v : Value} {l : List Sp.S} {B : Nat} (h : EOwn ES W C v l) (hr : Sp.Row l) (hb : l.length ≤ B) : ∃ ad n cp, v = .slice ad n cp ∧ SR W ad n l B := by
  obtain ⟨ad, cp, e, _, _, r⟩ := h.any
  exact ⟨ad, l.length, cp, e, r, hr, hb⟩
theorem SR.nil (W : World) (B : Nat) : SR W none 0 [] B := ⟨ERow.none W, Sp.Row.nil, by omega⟩
theorem SR.zero {W : World} {ad : Option Addr} {n B : Nat} (h : SR W ad n [] B) : n = 0 := h.r.n.symm

theorem mk_sl (a : Option Addr) (n cap : Nat) (zs : List Int) (w : World) (hr : Row .i64 w a n cap zs) :
    Calls Tryz.prog 15 #[.slice a n cap] w fun e w' => ∃ ad m cp l, e = .returned (.slice ad m cp) ∧ SR w' ad m l 7 ∧ RowKit.Below w.heap.size w w' := by
  refine (mk3_any a n cap zs w hr).mono ?_
  rintro e w' ⟨v', l, rfl, o, hrw, hl, hb⟩
  obtain ⟨ad, m, cp, rfl, h⟩ := SR.of o hrw hl
  exact ⟨ad, m, cp, l, rfl, h, hb⟩
theorem not_sl (W : World) (he : Env W) (ad : Option Addr) (n cp : Nat) (l : List Sp.S) (B : Nat) (h : SR W ad n l B) (hB : B ≤ 1000) :
    Calls Tryz.prog 18 #[.slice ad n cp] W fun e w' => ∃ a2 n2 c2, e = .returned (.slice a2 n2 c2) ∧ SR w' a2 n2 (Sp.notL l) (B + 1) ∧ RowKit.Below W.heap.size W w' := by
  have hle := h.le
  have hn := h.r.n
  refine (not_any ad n cp l W h.r (by omega) h.row.ok he).mono ?_
  rintro e w' ⟨v', rfl, o, hb⟩
  obtain ⟨a2, n2, c2, rfl, h2⟩ := SR.of (B := B + 1) o h.row.not (by have := not_len l; omega)
  exact ⟨a2, n2, c2, rfl, h2, hb⟩
theorem and_sl (W : World) (he : Env W) (ad ad' : Option Addr) (n n' cp cp' : Nat) (l k : List Sp.S) (B B' : Nat) (h : SR W ad n l B) (h' : SR W ad' n' k B') (hB : B ≤ 1000) (hB' : B' ≤ 1000) :
    Calls Tryz.prog 16 #[.slice ad n cp, .slice ad' n' cp'] W fun e w' => ∃ a2 n2 c2, e = .returned (.slice a2 n2 c2) ∧ SR w' a2 n2 (Sp.allL [l, k]) (B + B' + 4) ∧ RowKit.Below W.heap.size W w' := by
  have hle := h.le
  have hle' := h'.le
  have hn := h.r.n
  have hn' := h'.r.n
  refine (and_any ad ad' n n' cp cp' l k W h.r h'.r (by omega) h.row.ok h'.row.ok he).mono ?_
  rintro e w' ⟨v', rfl, o, hb⟩
  have hlen : (Sp.allL [l, k]).length ≤ B + B' + 4 := by
    unfold Sp.allL
    have h1 := not_len (Sp.nrm ([l, k].flatMap Sp.notL))
    have h2 := nrm_len ([l, k].flatMap Sp.notL)
    have h3 : ([l, k].flatMap Sp.notL).length ≤ l.length + 1 + (k.length + 1) := by
      have e1 := not_len l
      have e2 := not_len k
      simp only [List.flatMap_cons, List.flatMap_nil, List.append_nil, List.length_append]
      omega
    omega
  obtain ⟨a2, n2, c2, rfl, h2⟩ := SR.of (B := B + B' + 4) o (h.row.and h'.row) hlen
  exact ⟨a2, n2, c2, rfl, h2, hb⟩
theorem or2_sl (W : World) (he : Env W) (ad ad' : Option Addr) (n n' cp cp' : Nat) (l k : List Sp.S) (B B' : Nat) (h : SR W ad n l B) (h' : SR W ad' n' k B') (hB : B ≤ 1000) (hB' : B' ≤ 1000) :
    Calls Tryz.prog 17 #[.slice (some ⟨W.heap.size, 0, none⟩) 2 2] (W.alloc (.cells #[.slice ad n cp, .slice ad' n' cp'] 24)) fun e w' => ∃ a2 n2 c2, e = .returned (.slice a2 n2 c2) ∧ SR w' a2 n2 (Sp.nrm [l, k].flatten) (B + B' + 1) ∧ RowKit.Below W.heap.size W w' := by
  have hle := h.le
  have hle' := h'.le
  have hn := h.r.n
  have hn' := h'.r.n
  have hb0 : RowKit.Below W.heap.size W (W.alloc (.cells #[.slice ad n cp, .slice ad' n' cp'] 24)) := (by repeat (first | with_reducible assumption | with_reducible exact Below.refl _ _ | with_reducible refine Below.setCell ?_ (by first | exact Nat.le_refl _ | (simp; done) | (simp; omega)) _ | with_reducible refine bal ?_ _ | with_reducible refine Below.alloc ?_ (by first | exact Nat.le_refl _ | (simp; done) | (simp; omega)) _ | with_reducible refine Below.drew ?_))
  have hrr := rrow2 (a := ⟨ad, n, cp⟩) (b := ⟨ad', n', cp'⟩) 24 h.r h'.r
  have hfl : [l, k].flatten.length = l.length + k.length := by simp
  refine (sor_any (some ⟨W.heap.size, 0, none⟩) 2 2 [l, k] _ hrr (by omega) (by omega) (Sp.ok_two h.row.ok h'.row.ok) (he.later hb0)).mono ?_
  rintro e w' ⟨v', rfl, o, hb⟩
  obtain ⟨a2, n2, c2, rfl, h2⟩ := SR.of (B := B + B' + 1) o (h.row.or h'.row) (by have := nrm_len [l, k].flatten; omega)
  exact ⟨a2, n2, c2, rfl, h2, step hb0 hb⟩
theorem rrow1 {W : World} {a : Sl} {l : List Sp.S} (T : TypeId) (h1 : ERow ES W a.a a.n l) :
    RRow (W.alloc (.cells #[a.val] T)) (some ⟨W.heap.size, 0, none⟩) 1 [l] := by
  have hb : RowKit.Below W.heap.size W (W.alloc (.cells #[a.val] T)) := (by repeat (first | with_reducible assumption | with_reducible exact Below.refl _ _ | with_reducible refine Below.setCell ?_ (by first | exact Nat.le_refl _ | (simp; done) | (simp; omega)) _ | with_reducible refine bal ?_ _ | with_reducible refine Below.alloc ?_ (by first | exact Nat.le_refl _ | (simp; done) | (simp; omega)) _ | with_reducible refine Below.drew ?_))
  refine ⟨[a], ⟨rfl, (fun e => nomatch e), fun x e j v hj => ?_⟩, h1.later hb, trivial⟩
  obtain rfl : ⟨W.heap.size, 0, .none⟩ = x := by simpa using e
  rw [addr_add, Nat.zero_add, (Box.new W _ T).c]
  simpa [El.encs, ER] using hj
theorem or1_sl (W : World) (he : Env W) (ad : Option Addr) (n cp : Nat) (l : List Sp.S) (B : Nat) (h : SR W ad n l B) (hB : B ≤ 1000) :
    Calls Tryz.prog 17 #[.slice (some ⟨W.heap.size, 0, none⟩) 1 1] (W.alloc (.cells #[.slice ad n cp] 24)) fun e w' => ∃ a2 n2 c2, e = .returned (.slice a2 n2 c2) ∧ SR w' a2 n2 l (B + 1) ∧ RowKit.Below W.heap.size W w' := by
  have hle := h.le
  have hn := h.r.n
  have hb0 : RowKit.Below W.heap.size W (W.alloc (.cells #[.slice ad n cp] 24)) := (by repeat (first | with_reducible assumption | with_reducible exact Below.refl _ _ | with_reducible refine Below.setCell ?_ (by first | exact Nat.le_refl _ | (simp; done) | (simp; omega)) _ | with_reducible refine bal ?_ _ | with_reducible refine Below.alloc ?_ (by first | exact Nat.le_refl _ | (simp; done) | (simp; omega)) _ | with_reducible refine Below.drew ?_))
  have hrr := rrow1 (a := ⟨ad, n, cp⟩) 24 h.r
  have hfl : [l].flatten = l := by simp
  refine (sor_any (some ⟨W.heap.size, 0, none⟩) 1 1 [l] _ hrr (by omega) (by rw [hfl]; omega) (by rw [hfl]; exact h.row.ok) (he.later hb0)).mono ?_
  rintro e w' ⟨v', rfl, o, hb⟩
  rw [Sp.or_one_row h.row] at o
  obtain ⟨a2, n2, c2, rfl, h2⟩ := SR.of (B := B + 1) o h.row (by omega)
  exact ⟨a2, n2, c2, rfl, h2, step hb0 hb⟩
theorem or0_sl (W : World) (he : Env W) :
    Calls Tryz.prog 17 #[.slice none 0 0] W fun e w' => ∃ a2 c2, e = .returned (.slice a2 0 c2) ∧ RowKit.Below W.heap.size W w' := by
  refine (sor_any none 0 0 [] W ⟨[], ERow.none W, trivial⟩ (by omega) (by simp) (fun _ h => nomatch h) he).mono ?_
  rintro e w' ⟨v', rfl, o, hb⟩
  obtain ⟨a2, c2, rfl, _, _, _⟩ := EOwn.any (l := []) (E := ES) (show EOwn ES w' W.heap.size v' [] from o)
  exact ⟨a2, c2, rfl, hb⟩
theorem same_sl (W : World) (ad ad' : Option Addr) (n n' cp cp' : Nat) (l k : List Sp.S) (B B' : Nat) (h : SR W ad n l B) (h' : SR W ad' n' k B') (hB : B ≤ 5000) (e : l = k) :
    Calls Tryz.prog 19 #[.slice ad n cp, .slice ad' n' cp'] W fun e w' => e = .returned (.bool true) ∧ RowKit.Below W.heap.size W w' := by
  have hle := h.le
  have := rsame_any ad ad' n n' cp cp' l k W h.r h'.r (by omega) h.row.ok h'.row.ok
  rw [decide_eq_true e] at this
  exact this
end Go.Proofs.YtohnlhfgajipgaaGreatDoor
