/-
  A part, as the reference reads it: states between the words.
-/
import Derived.Test.YtninheehoabbbaaGreatDoorM28
namespace Go.Sp
set_option linter.unusedVariables false
open Go.Vr Go.Tx Go.Lib

theorem bl_idem (s : Bs) (p : Nat) : blM s (blM s p) = blM s p := by
  have h := bl_drop s p
  unfold blM at h ⊢
  rw [h]
  have : (dropBl (s.drop p)).takeWhile (· == 32) = [] := by
    cases e : dropBl (s.drop p) with
    | nil => rfl
    | cons c t =>
      have := dropBl_head _ _ _ e
      rw [List.takeWhile_cons_of_neg (by simpa using this)]
  rw [this]; rfl
/-- Between two words: so many rows so far. -/
def St (s : Bs) (pm : Option (List S) × Nat) (q : Nat) (ls : List (List S)) (f : Nat) : Prop := pm = if ls ≠ [] ∧ (q = s.length ∨ s[q]? = some 124) then (some (allL ls), q) else partG s f q ls
theorem St.begin (s : Bs) (p : Nat) : St s (partM s p) (blM s p) [] (s.length + 1) := by
  unfold St
  rw [if_neg (fun h => h.1 rfl)]
  rfl
theorem St.fin {s : Bs} {pm : Option (List S) × Nat} {q f : Nat} {ls : List (List S)} (h : St s pm q ls f) (hc : ls ≠ [] ∧ (q = s.length ∨ s[q]? = some 124)) : pm = (some (allL ls), q) := by
  unfold St at h
  rw [if_pos hc] at h
  exact h
theorem St.none {s : Bs} {pm : Option (List S) × Nat} {q q1 f : Nat} {ls : List (List S)} (h : St s pm q ls (f + 1)) (hc : ¬ (ls ≠ [] ∧ (q = s.length ∨ s[q]? = some 124))) (hi : itemM s q = (Option.none, q1)) : pm = (Option.none, q1) := by
  unfold St at h
  rw [if_neg hc] at h
  unfold partG at h
  rw [hi] at h
  exact h
theorem St.next {s : Bs} {pm : Option (List S) × Nat} {q q1 f : Nat} {ls : List (List S)} {l : List S} (h : St s pm q ls (f + 1)) (hc : ¬ (ls ≠ [] ∧ (q = s.length ∨ s[q]? = some 124))) (hi : itemM s q = (some l, q1)) : St s pm (blM s q1) (ls ++ [l]) f := by
  unfold St at h ⊢
  rw [if_neg hc] at h
  unfold partG at h
  rw [hi] at h
  simp only at h
  rw [h]
  by_cases hb : blM s q1 = s.length ∨ s[blM s q1]? = some 124
  · rw [if_pos hb, if_pos ⟨by simp, hb⟩]
  · rw [if_neg hb, if_neg (fun k => hb k.2)]
theorem item_none {s : Bs} {q : Nat} (h : meantM (wordM s q) = Option.none) : itemM s q = (Option.none, q) := by
  unfold itemM; rw [h]
theorem item_one {s : Bs} {q : Nat} {l : List S} (h : meantM (wordM s q) = some l) (hp : parse (wordM s q) = Option.none ∨ wordM s (blM s (q + (wordM s q).length)) ≠ [45]) : itemM s q = (some l, blM s (q + (wordM s q).length)) := by
  unfold itemM
  rw [h]
  simp only
  unfold item1
  cases e : parse (wordM s q) with
  | none => rfl
  | some v =>
    simp only
    rw [if_neg]
    rcases hp with hp | hp
    · rw [e] at hp; exact nomatch hp
    · exact hp
theorem item_two {s : Bs} {q : Nat} {l : List S} {v : V} (h : meantM (wordM s q) = some l) (hv : parse (wordM s q) = some v) (hd : wordM s (blM s (q + (wordM s q).length)) = [45]) : itemM s q = item2 s (blM s (q + (wordM s q).length)) v := by
  unfold itemM
  rw [h]
  simp only
  unfold item1
  rw [hv]
  simp only
  rw [if_pos hd]
theorem plain_row {w : Bs} {l : List S} {v : V} (h : meantM w = some l) (hv : parse w = some v) : l = [(some (v, false), some (v, true))] ∧ v.ok = true := by
  obtain ⟨ok, ht⟩ := parse_some hv
  have hm := meant_signed (g := []) ok (by simp)
  rw [List.nil_append, ht, h] at hm
  have hsg : signedM [] v = some (only cmpC (some (v, false)) (some (v, true))) := rfl
  rw [hsg] at hm
  refine ⟨?_, ok⟩
  rw [Option.some.inj hm]
  unfold only
  have hc : cmpC (some (v, false)) (some (v, true)) < 0 := by
    rw [cmpC_ss]
    show seq (cmpV v v) (cmpB false true) < 0
    rw [ord_ver.refl]
    decide
  rw [if_pos hc]
theorem word_bar {s : Bs} {p : Nat} (h : s[p]? = some 45) : ∃ t, wordM s p = 45 :: t := by
  have hlt := (List.getElem?_eq_some_iff.1 h).1
  have e : s.drop p = 45 :: s.drop (p + 1) := by rw [List.drop_eq_getElem_cons hlt, (List.getElem?_eq_some_iff.1 h).2]
  exact ⟨(s.drop (p + 1)).takeWhile isW, by unfold wordM; rw [e, List.takeWhile_cons_of_pos (by decide)]⟩
theorem word_nobar {s : Bs} {p : Nat} (h : s[p]? ≠ some 45) : wordM s p ≠ [45] := by
  intro e
  apply h
  unfold wordM at e
  cases hd : s.drop p with
  | nil => rw [hd] at e; exact nomatch e
  | cons c t =>
    rw [hd] at e
    by_cases hc : isW c = true
    · rw [List.takeWhile_cons_of_pos hc] at e
      have := (List.cons.inj e).1
      subst this
      exact at_drop hd
    · rw [List.takeWhile_cons_of_neg hc] at e; exact nomatch e
end Go.Sp
