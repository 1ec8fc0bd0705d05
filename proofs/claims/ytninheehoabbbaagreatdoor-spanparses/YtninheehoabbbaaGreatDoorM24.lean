/-
  The laws of sets, at rows of spans.
-/
import Derived.Test.YtninheehoabbbaaGreatDoorM20
namespace Go.Sp
set_option linter.unusedVariables false
open Go.Vr Go.Tx

/-- A row that may be, normed. -/
structure Row (l : List S) : Prop where
  nm : Normed l
  ok : okL l
theorem Row.nil : Row [] := ⟨trivial, fun _ h => nomatch h⟩
theorem Row.nrm {l : List S} (h : okL l) : Row (nrm l) := ⟨nrm_nm l, ok_nrm h⟩
theorem Row.not {l : List S} (h : Row l) : Row (notL l) := ⟨not_nm h.nm, ok_not h.ok⟩
theorem ok_two {a b : List S} (ha : okL a) (hb : okL b) : okL [a, b].flatten := by
  intro s hs
  simp only [List.flatten_cons, List.flatten_nil, List.append_nil, List.mem_append] at hs
  exact hs.elim (ha s) (hb s)
theorem ok_three {a b c : List S} (ha : okL a) (hb : okL b) (hc : okL c) : okL [a, b, c].flatten := by
  intro s hs
  simp only [List.flatten_cons, List.flatten_nil, List.append_nil, List.mem_append] at hs
  exact hs.elim (ha s) fun h => h.elim (hb s) (hc s)
theorem Row.or {a b : List S} (ha : Row a) (hb : Row b) : Row (Sp.nrm [a, b].flatten) := Row.nrm (ok_two ha.ok hb.ok)
theorem mem_two {P : List S → Prop} {a b : List S} (ha : P a) (hb : P b) : ∀ l ∈ [a, b], P l := by
  intro l hl
  rcases List.mem_cons.1 hl with rfl | hl
  · exact ha
  · rw [List.mem_singleton.1 hl]; exact hb
theorem Row.and {a b : List S} (ha : Row a) (hb : Row b) : Row (allL [a, b]) := ⟨all_nm _, ok_all (mem_two ha.ok hb.ok)⟩
/-- Between the first version and the end. -/
def InR (x : C) : Prop := cmpC start x ≤ 0 ∧ cmpC x none < 0
theorem Row.range {a : List S} (h : Row a) {x : C} (k : Has a x) : InR x := has_range h.ok k
theorem has_not {a : List S} (h : Row a) (x : C) : Has (notL a) x ↔ InR x ∧ ¬ Has a x := by rw [not_has h.nm h.ok]; unfold InR; exact ⟨fun ⟨p, q, r⟩ => ⟨⟨p, q⟩, r⟩, fun ⟨⟨p, q⟩, r⟩ => ⟨p, q, r⟩⟩
theorem has_or (a b : List S) (x : C) : Has (Sp.nrm [a, b].flatten) x ↔ Has a x ∨ Has b x := by
  rw [nrm_has, has_flat]
  constructor
  · rintro ⟨l, hl, h⟩
    rcases List.mem_cons.1 hl with rfl | hl
    · exact .inl h
    · rw [List.mem_singleton.1 hl] at h; exact .inr h
  · rintro (h | h)
    · exact ⟨a, by simp, h⟩
    · exact ⟨b, by simp, h⟩
theorem has_or3 (a b c : List S) (x : C) : Has (Sp.nrm [a, b, c].flatten) x ↔ Has a x ∨ Has b x ∨ Has c x := by
  rw [nrm_has, has_flat]
  constructor
  · rintro ⟨l, hl, h⟩
    rcases List.mem_cons.1 hl with rfl | hl
    · exact .inl h
    · rcases List.mem_cons.1 hl with rfl | hl
      · exact .inr (.inl h)
      · rw [List.mem_singleton.1 hl] at h; exact .inr (.inr h)
  · rintro (h | h | h)
    · exact ⟨a, by simp, h⟩
    · exact ⟨b, by simp, h⟩
    · exact ⟨c, by simp, h⟩
theorem has_and {a b : List S} (ha : Row a) (hb : Row b) (x : C) : Has (allL [a, b]) x ↔ Has a x ∧ Has b x := by
  rw [all_has (mem_two ha.nm hb.nm) (mem_two ha.ok hb.ok)]
  constructor
  · rintro ⟨_, _, h⟩; exact ⟨h a (by simp), h b (by simp)⟩
  · rintro ⟨h, k⟩; exact ⟨(ha.range h).1, (ha.range h).2, mem_two (P := fun l => Has l x) h k⟩
theorem row_eq {a b : List S} (ha : Row a) (hb : Row b) (h : ∀ x, Has a x ↔ Has b x) : a = b := unique ord_cut a b ha.nm hb.nm h
open Classical in
theorem not_not_row {a : List S} (h : Row a) : notL (notL a) = a := row_eq h.not.not h fun x => by
  rw [has_not h.not, has_not h]
  constructor
  · rintro ⟨r, k⟩; exact Classical.byContradiction fun n => k ⟨r, n⟩
  · intro k; exact ⟨h.range k, fun n => n.2 k⟩
theorem not_or_row {a b : List S} (ha : Row a) (hb : Row b) : notL (Sp.nrm [a, b].flatten) = allL [notL a, notL b] := row_eq (ha.or hb).not (ha.not.and hb.not) fun x => by
  rw [has_not (ha.or hb), has_and ha.not hb.not, has_or, has_not ha, has_not hb]
  constructor
  · rintro ⟨r, k⟩; exact ⟨⟨r, fun h => k (.inl h)⟩, r, fun h => k (.inr h)⟩
  · rintro ⟨⟨r, k⟩, _, m⟩; exact ⟨r, fun h => h.elim k m⟩
theorem and_or_row {a b c : List S} (ha : Row a) (hb : Row b) (hc : Row c) : allL [a, Sp.nrm [b, c].flatten] = Sp.nrm [allL [a, b], allL [a, c]].flatten := row_eq (ha.and (hb.or hc)) ((ha.and hb).or (ha.and hc)) fun x => by
  rw [has_and ha (hb.or hc), has_or, has_or, has_and ha hb, has_and ha hc]
  constructor
  · rintro ⟨h, k | k⟩
    · exact .inl ⟨h, k⟩
    · exact .inr ⟨h, k⟩
  · rintro (⟨h, k⟩ | ⟨h, k⟩)
    · exact ⟨h, .inl k⟩
    · exact ⟨h, .inr k⟩
theorem or_not_row {a : List S} (ha : Row a) : Sp.nrm [a, notL a].flatten = notL [] := row_eq (ha.or ha.not) Row.nil.not fun x => by
  rw [has_or, has_not ha, has_not Row.nil]
  constructor
  · rintro (h | h)
    · exact ⟨ha.range h, in_nil x⟩
    · exact ⟨h.1, in_nil x⟩
  · rintro ⟨r, _⟩
    by_cases h : Has a x
    · exact .inl h
    · exact .inr ⟨r, h⟩
theorem and_not_row {a : List S} (ha : Row a) : allL [a, notL a] = [] := row_eq (ha.and ha.not) Row.nil fun x => by
  rw [has_and ha ha.not, has_not ha]
  exact ⟨fun h => absurd h.1 h.2.2, fun h => absurd h (in_nil x)⟩
theorem or_one_row {a : List S} (ha : Row a) : Sp.nrm [a].flatten = a := by
  have e : [a].flatten = a := by simp
  rw [e]; exact nrm_same ha.nm
theorem or_none : Sp.nrm ([] : List (List S)).flatten = [] := rfl
theorem or_comm_row {a b : List S} (ha : Row a) (hb : Row b) : Sp.nrm [b, a].flatten = Sp.nrm [a, b].flatten := row_eq (hb.or ha) (ha.or hb) fun x => by
  rw [has_or, has_or]; exact or_comm
/-- As the reference writes them. -/
theorem or_app {a b : List S} : Sp.nrm (a ++ b) = Sp.nrm [a, b].flatten := by
  have e : [a, b].flatten = a ++ b := by simp
  rw [e]
theorem or_or {a b c : List S} (ha : Row a) (hb : Row b) (hc : Row c) : Sp.nrm (Sp.nrm (a ++ b) ++ c) = Sp.nrm [a, b, c].flatten := by
  rw [or_app, or_app]
  refine row_eq ((ha.or hb).or hc) (Row.nrm (ok_three ha.ok hb.ok hc.ok)) fun x => ?_
  rw [has_or, has_or, has_or3, or_assoc]
theorem and_ref (a b : List S) : notL (Sp.nrm (notL a ++ notL b)) = allL [a, b] := by
  unfold allL
  have e : [a, b].flatMap notL = notL a ++ notL b := by simp
  rw [e]
end Go.Sp
