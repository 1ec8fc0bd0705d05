/-
  The reference's way to read a word is the model's.
-/
import Derived.Test.YtninheehoabbbaaGreatDoorM27
namespace Go.Sp
set_option linter.unusedVariables false
open Go.Vr Go.Tx Go.Lib

theorem nrm_one (a b : C) : nrm [(a, b)] = only cmpC a b := (nrm_uniq (nm_only a b) fun x => by
  show In cmpC _ x ↔ In cmpC _ x
  rw [in_only ord_cut, in_cons]
  exact ⟨.inl, fun h => h.resolve_right (in_nil x)⟩).symm
/-- The signs, as the reference tries them. -/
def sigs : List Bs := [[33, 61], [62, 61], [60, 61], [61], [62], [60], [94], [126], []]
def pref (g s : Bs) : Bool := s.take g.length == g
theorem sig_first (k : Nat) (hk : k < 9) (r : Bs) : (∀ j, j < k → pref (sigs.getD j []) (sigs.getD k [] ++ 118 :: r) = false) ∧ pref (sigs.getD k []) (sigs.getD k [] ++ 118 :: r) = true := by
  constructor
  · intro j hj
    match k, hk, j, hj with
    | 1, _, 0, _ => rfl
    | 2, _, 0, _ => rfl
    | 2, _, 1, _ => rfl
    | 3, _, 0, _ => rfl
    | 3, _, 1, _ => rfl
    | 3, _, 2, _ => rfl
    | 4, _, 0, _ => rfl
    | 4, _, 1, _ => rfl
    | 4, _, 2, _ => rfl
    | 4, _, 3, _ => rfl
    | 5, _, 0, _ => rfl
    | 5, _, 1, _ => rfl
    | 5, _, 2, _ => rfl
    | 5, _, 3, _ => rfl
    | 5, _, 4, _ => rfl
    | 6, _, 0, _ => rfl
    | 6, _, 1, _ => rfl
    | 6, _, 2, _ => rfl
    | 6, _, 3, _ => rfl
    | 6, _, 4, _ => rfl
    | 6, _, 5, _ => rfl
    | 7, _, 0, _ => rfl
    | 7, _, 1, _ => rfl
    | 7, _, 2, _ => rfl
    | 7, _, 3, _ => rfl
    | 7, _, 4, _ => rfl
    | 7, _, 5, _ => rfl
    | 7, _, 6, _ => rfl
    | 8, _, 0, _ => rfl
    | 8, _, 1, _ => rfl
    | 8, _, 2, _ => rfl
    | 8, _, 3, _ => rfl
    | 8, _, 4, _ => rfl
    | 8, _, 5, _ => rfl
    | 8, _, 6, _ => rfl
    | 8, _, 7, _ => rfl
  · match k, hk with
    | 0, _ => rfl
    | 1, _ => rfl
    | 2, _ => rfl
    | 3, _ => rfl
    | 4, _ => rfl
    | 5, _ => rfl
    | 6, _ => rfl
    | 7, _ => rfl
    | 8, _ => rfl
theorem sig_mem {g : Bs} {v : V} {l : List S} (h : signedM g v = some l) : ∃ k, k < 9 ∧ g = sigs.getD k [] := by
  unfold signedM at h
  by_cases h0 : g = [] ∨ g = [61]
  · rcases h0 with rfl | rfl
    · exact ⟨8, by omega, rfl⟩
    · exact ⟨3, by omega, rfl⟩
  rw [if_neg h0] at h
  by_cases h1 : g = [33, 61]
  · exact ⟨0, by omega, h1⟩
  rw [if_neg h1] at h
  by_cases h2 : g = [62]
  · exact ⟨4, by omega, h2⟩
  rw [if_neg h2] at h
  by_cases h3 : g = [62, 61]
  · exact ⟨1, by omega, h3⟩
  rw [if_neg h3] at h
  by_cases h4 : g = [60]
  · exact ⟨5, by omega, h4⟩
  rw [if_neg h4] at h
  by_cases h5 : g = [60, 61]
  · exact ⟨2, by omega, h5⟩
  rw [if_neg h5] at h
  by_cases h6 : g = [94]
  · exact ⟨6, by omega, h6⟩
  rw [if_neg h6] at h
  by_cases h7 : g = [126]
  · exact ⟨7, by omega, h7⟩
  rw [if_neg h7] at h
  exact nomatch h
theorem sig_no (k : Nat) (hk : k < 9) : ∀ c ∈ sigs.getD k [], c ≠ 118 := by
  match k, hk with
  | 0, _ => decide
  | 1, _ => decide
  | 2, _ => decide
  | 3, _ => decide
  | 4, _ => decide
  | 5, _ => decide
  | 6, _ => decide
  | 7, _ => decide
  | 8, _ => decide
theorem pref_eq {g s : Bs} (h : pref g s = true) : s = g ++ s.drop g.length := by
  have e : s.take g.length = g := by simpa [pref] using h
  conv => lhs; rw [← List.take_append_drop g.length s, e]
theorem txt_v (v : V) : ∃ r, txt v = 118 :: r := ⟨_, rfl⟩
theorem one_hit {s : Bs} (i : Nat) (hi : i < 9) (hp : pref (sigs.getD i []) s = true) (hn : ∀ j, j < i → pref (sigs.getD j []) s = false) (hs : s ≠ [42]) (hw : wildM s = none) :
    meantM s = meant2 (sigs.getD i []) (parse (s.drop (sigs.getD i []).length)) := by
  cases e : parse (s.drop (sigs.getD i []).length) with
  | some v =>
    obtain ⟨ok, ht⟩ := parse_some e
    have hs2 := pref_eq hp
    rw [← ht] at hs2
    conv => lhs; rw [hs2]
    exact meant_signed ok (sig_no i hi)
  | none =>
    show meantM s = none
    unfold meantM
    rw [if_neg hs, hw]
    show meant2 (s.take (vAt s)) (parse (s.drop (vAt s))) = none
    cases e2 : parse (s.drop (vAt s)) with
    | none => rfl
    | some v =>
      show signedM (s.take (vAt s)) v = none
      cases e3 : signedM (s.take (vAt s)) v with
      | none => rfl
      | some l =>
        exfalso
        obtain ⟨k, hk, hg⟩ := sig_mem e3
        obtain ⟨ok, ht⟩ := parse_some e2
        have hs2 : s = sigs.getD k [] ++ txt v := by rw [← hg, ht, List.take_append_drop]
        obtain ⟨r, hr⟩ := txt_v v
        obtain ⟨f1, f2⟩ := sig_first k hk r
        rw [← hr, ← hs2] at f1 f2
        have hik : i = k := by
          rcases Nat.lt_trichotomy i k with h | h | h
          · rw [f1 i h] at hp; exact nomatch hp
          · exact h
          · rw [hn k h] at f2; exact nomatch f2
        subst hik
        rw [hs2, List.drop_left, parse_txt ok] at e
        exact nomatch e
theorem sig_head {s : Bs} (i : Nat) (hi : i < 8) (hp : pref (sigs.getD i []) s = true) : parse s = none := by
  cases e : parse s with
  | none => rfl
  | some v =>
    exfalso
    obtain ⟨ok, ht⟩ := parse_some e
    obtain ⟨r, hr⟩ := txt_v v
    have h := (sig_first 8 (by omega) r).1 i hi
    have e2 : sigs.getD 8 [] ++ 118 :: r = s := by rw [← ht, hr]; rfl
    rw [e2, hp] at h
    exact nomatch h
/-- A word with a bar ahead says nothing. -/
theorem meant_bar (t : Bs) : meantM (45 :: t) = none := by
  have hp0 : parse (45 :: t) = none := by
    cases e : parse (45 :: t) with
    | none => rfl
    | some v => obtain ⟨r, hr⟩ := txt_v v; have := (parse_some e).2; rw [hr] at this; exact absurd (List.cons.inj this).1 (by decide)
  have hw : wildM (45 :: t) = none := by
    have np : ∀ y z : Bs, ∀ c : UInt8, parse (c :: y) ≠ none → c = 118 := by
      intro y _ c h
      cases e : parse (c :: y) with
      | none => exact absurd e h
      | some v => obtain ⟨r, hr⟩ := txt_v v; have := (parse_some e).2; rw [hr] at this; exact (List.cons.inj this).1.symm
    unfold wildM
    split
    · cases ht : (45 :: t).take ((45 :: t).length - 2) with
      | nil =>
        have e1 : parse ([] ++ [46, 48]) = none := by decide +kernel
        have e2 : parse ([] ++ [46, 48, 46, 48]) = none := by decide +kernel
        rw [e1, e2]; rfl
      | cons c u =>
        have hc : c = 45 := by
          cases hl : (45 :: t).length - 2 with
          | zero => rw [hl] at ht; exact nomatch ht
          | succ m => rw [hl, List.take_succ_cons] at ht; exact (List.cons.inj ht).1.symm
        subst hc
        have q : ∀ y : Bs, parse (45 :: y) = none := fun y => Classical.byContradiction fun h => absurd (np y [] 45 h) (by decide)
        rw [List.cons_append, List.cons_append, q, q]; rfl
    · rfl
  have h := one_hit (s := 45 :: t) 8 (by omega) (by rfl) (fun j hj => by
    match j, hj with
    | 0, _ => rfl
    | 1, _ => rfl
    | 2, _ => rfl
    | 3, _ => rfl
    | 4, _ => rfl
    | 5, _ => rfl
    | 6, _ => rfl
    | 7, _ => rfl) (by intro e; exact absurd (List.cons.inj e).1 (by decide)) hw
  rw [h]
  show meant2 [] (parse (45 :: t)) = none
  rw [hp0]; rfl
/-- Both of what all say and one more: all with that one. -/
theorem all_snoc {ls : List (List S)} {l : List S} (h : ∀ m ∈ ls, Row m) (k : Row l) : allL [allL ls, l] = allL (ls ++ [l]) := by
  have hr : Row (allL ls) := ⟨all_nm _, ok_all fun m hm => (h m hm).ok⟩
  have hr2 : ∀ m ∈ ls ++ [l], Row m := fun m hm => (List.mem_append.1 hm).elim (h m) (fun e => by rw [List.mem_singleton.1 e]; exact k)
  refine row_eq (hr.and k) ⟨all_nm _, ok_all fun m hm => (hr2 m hm).ok⟩ fun x => ?_
  rw [has_and hr k, all_has (fun m hm => (h m hm).nm) (fun m hm => (h m hm).ok), all_has (fun m hm => (hr2 m hm).nm) (fun m hm => (hr2 m hm).ok)]
  constructor
  · rintro ⟨⟨h1, h2, h3⟩, h4⟩
    exact ⟨h1, h2, fun m hm => (List.mem_append.1 hm).elim (h3 m) (fun e => by rw [List.mem_singleton.1 e]; exact h4)⟩
  · rintro ⟨h1, h2, h3⟩
    exact ⟨⟨h1, h2, fun m hm => h3 m (by simp [hm])⟩, h3 l (by simp)⟩
theorem all_nil : allL [] = notL [] := rfl
theorem or_snoc {ls : List (List S)} {l : List S} : nrm (nrm ls.flatten ++ l) = nrm (ls ++ [l]).flatten := nrm_uniq (nrm_nm _) fun x => (nrm_has _ x).trans (by
  show In cmpC _ x ↔ In cmpC _ x
  have e : (ls ++ [l]).flatten = ls.flatten ++ l := by simp
  rw [e, in_app, in_app]
  exact ⟨fun h => h.elim (fun h => .inl ((nrm_has _ x).1 h)) .inr, fun h => h.elim (fun h => .inl ((nrm_has _ x).2 h)) .inr⟩)
end Go.Sp
