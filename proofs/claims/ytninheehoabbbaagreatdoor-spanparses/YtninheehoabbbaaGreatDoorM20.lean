/-
  Plain mathematics of joining as the reference does it: spans put in one by one by their begins, then joined from the left; leaving out with empty spans between; one row's spans are told by its cells.
-/
import Derived.Test.YtninheehoabbbaaGreatDoorM17
namespace Go.Sp
set_option linter.unusedVariables false
open Go.Vr Go.Tx

theorem rise_at {l : List S} (h : Rise cmpC l) : ∀ (i j : Nat) (x y : S), i ≤ j → l[i]? = some x → l[j]? = some y → cmpC x.1 y.1 ≤ 0 := by
  induction l with
  | nil => intro i j x y _ hx; simp at hx
  | cons s l ih =>
    intro i j x y hij hx hy
    cases i with
    | zero =>
      obtain rfl : s = x := by simpa using hx
      cases j with
      | zero =>
        obtain rfl : s = y := by simpa using hy
        rw [ord_cut.refl]; omega
      | succ j => exact h.1 y (List.mem_of_getElem? (by simpa using hy))
    | succ i =>
      cases j with
      | zero => omega
      | succ j => exact ih h.2 i j x y (by omega) (by simpa using hx) (by simpa using hy)
theorem rise_app : ∀ {a b : List S}, Rise cmpC a → Rise cmpC b → (∀ s ∈ a, ∀ t ∈ b, cmpC s.1 t.1 ≤ 0) → Rise cmpC (a ++ b)
  | [], _, _, hb, _ => hb
  | s :: a, b, ha, hb, h => by
    refine ⟨fun t ht => ?_, rise_app ha.2 hb fun u hu t ht => h u (by simp [hu]) t ht⟩
    rcases List.mem_append.1 ht with ht | ht
    · exact ha.1 t ht
    · exact h s (by simp) t ht
theorem rise_take : ∀ {a : List S} (k : Nat), Rise cmpC a → Rise cmpC (a.take k)
  | _, 0, _ => by rw [List.take_zero]; trivial
  | [], _ + 1, _ => trivial
  | s :: a, k + 1, h => ⟨fun t ht => h.1 t (List.mem_of_mem_take ht), rise_take k h.2⟩
theorem rise_drop : ∀ {a : List S} (k : Nat), Rise cmpC a → Rise cmpC (a.drop k)
  | _, 0, h => h
  | [], _ + 1, _ => trivial
  | _ :: _, k + 1, h => rise_drop k h.2
/-- One put in at the place that the walk from behind finds. -/
theorem rise_put {l : List S} (hr : Rise cmpC l) (x : S) (k : Nat) (h1 : ∀ t ∈ l.drop k, cmpC x.1 t.1 < 0) (h2 : k = 0 ∨ ∃ y, l[k - 1]? = some y ∧ ¬ cmpC x.1 y.1 < 0) : Rise cmpC (l.take k ++ [x] ++ l.drop k) := by
  have hx : Rise cmpC [x] := ⟨by simp, trivial⟩
  refine rise_app (rise_app (rise_take k hr) hx fun s hs t ht => ?_) (rise_drop k hr) fun s hs t ht => ?_
  · obtain rfl := List.mem_singleton.1 ht
    obtain ⟨i, hi⟩ := List.getElem?_of_mem hs
    rw [List.getElem?_take] at hi
    split at hi
    · rename_i hik
      rcases h2 with rfl | ⟨y, hy, hn⟩
      · omega
      · exact ord_cut.le _ _ _ (rise_at hr i (k - 1) s y (by omega) hi hy) (not_lt ord_cut hn)
    · exact nomatch hi
  · rcases List.mem_append.1 hs with hs | hs
    · obtain ⟨i, hi⟩ := List.getElem?_of_mem hs
      obtain ⟨j, hj⟩ := List.getElem?_of_mem ht
      rw [List.getElem?_take] at hi
      rw [List.getElem?_drop] at hj
      split at hi
      · exact rise_at hr i (k + j) s t (by omega) hi hj
      · exact nomatch hi
    · obtain rfl := List.mem_singleton.1 hs
      have := h1 t ht; omega
theorem mem_put (l : List S) (x : S) (k : Nat) (t : S) : t ∈ l.take k ++ [x] ++ l.drop k ↔ t = x ∨ t ∈ l := by
  have e : t ∈ l ↔ t ∈ l.take k ∨ t ∈ l.drop k := by rw [← List.mem_append, List.take_append_drop]
  simp only [List.mem_append, List.mem_singleton, e]
  constructor
  · rintro ((h | h) | h)
    · exact .inr (.inl h)
    · exact .inl h
    · exact .inr (.inr h)
  · rintro (h | h | h)
    · exact .inl (.inr h)
    · exact .inl (.inl h)
    · exact .inr h

/-- One more, joined from the left. -/
def stepR (out : List S) (x : S) : List S := match out.getLast? with
  | none => [x]
  | some t => if cmpC t.2 x.1 < 0 then out ++ [x] else if cmpC t.2 x.2 < 0 then out.dropLast ++ [(t.1, x.2)] else out
theorem stepR_last (pre : List S) (t x : S) : stepR (pre ++ [t]) x = if cmpC t.2 x.1 < 0 then pre ++ [t] ++ [x] else if cmpC t.2 x.2 < 0 then pre ++ [(t.1, x.2)] else pre ++ [t] := by
  unfold stepR
  rw [List.getLast?_append]
  simp
theorem fold_merge : ∀ (l : List S) (pre : List S) (a b : C), cmpC a b < 0 → (∀ s ∈ l, cmpC s.1 s.2 < 0) → l.foldl stepR (pre ++ [(a, b)]) = pre ++ merge cmpC a b l
  | [], pre, a, b, h, _ => by
    show pre ++ [(a, b)] = pre ++ only cmpC a b
    unfold only; rw [if_pos h]
  | s :: r, pre, a, b, h, hne => by
    have hs := hne s (by simp)
    have hr : ∀ t ∈ r, cmpC t.1 t.2 < 0 := fun t ht => hne t (by simp [ht])
    rw [List.foldl_cons, stepR_last]
    unfold merge
    by_cases h1 : cmpC b s.1 < 0
    · rw [if_pos h1, if_pos h1]
      have h2 : later cmpC b s.2 = s.2 := if_pos (lt_trans ord_cut h1 hs)
      have := fold_merge r (pre ++ [(a, b)]) s.1 s.2 hs hr
      rw [h2]
      unfold only
      rw [if_pos h, this, List.append_assoc]
    · rw [if_neg h1, if_neg h1]
      by_cases h2 : cmpC b s.2 < 0
      · have h3 : later cmpC b s.2 = s.2 := if_pos h2
        rw [if_pos h2, h3]
        exact fold_merge r pre a s.2 (lt_trans ord_cut h h2) hr
      · have h3 : later cmpC b s.2 = b := if_neg h2
        rw [if_neg h2, h3]
        exact fold_merge r pre a b h hr
theorem fold_join : ∀ (l : List S), (∀ s ∈ l, cmpC s.1 s.2 < 0) → l.foldl stepR [] = join cmpC l
  | [], _ => rfl
  | s :: r, hne => by
    have hs := hne s (by simp)
    rw [List.foldl_cons]
    have h := fold_merge r [] s.1 s.2 hs fun t ht => hne t (by simp [ht])
    rw [List.nil_append, List.nil_append] at h
    show r.foldl stepR [s] = merge cmpC s.1 s.2 (s :: r)
    have e : merge cmpC s.1 s.2 (s :: r) = merge cmpC s.1 s.2 r := by
      show (if cmpC s.2 s.1 < 0 then only cmpC s.1 s.2 ++ merge cmpC s.1 (later cmpC s.2 s.2) r else merge cmpC s.1 (later cmpC s.2 s.2) r) = _
      have h1 : ¬ cmpC s.2 s.1 < 0 := by have := ord_cut.anti s.1 s.2; omega
      have h2 : later cmpC s.2 s.2 = s.2 := if_neg (lt_ne ord_cut _)
      rw [if_neg h1, h2]
    rw [e]; exact h
theorem fold_nrm {l d : List S} (hr : Rise cmpC d) (hm : ∀ t, t ∈ d ↔ t ∈ l ∧ cmpC t.1 t.2 < 0) : d.foldl stepR [] = nrm l := by
  rw [fold_join d fun s hs => ((hm s).1 hs).2]
  refine nrm_uniq (join_nm ord_cut hr) fun x => (join_in ord_cut hr x).trans ⟨?_, ?_⟩
  · rintro ⟨s, hs, h⟩; exact ⟨s, ((hm s).1 hs).1, h⟩
  · rintro ⟨s, hs, h⟩; exact ⟨s, (hm s).2 ⟨hs, ord_cut.le_lt _ _ _ h.1 h.2⟩, h⟩

/-- What lies between, empty ones too, up to one that has no end. -/
def notR (a : C) : List S → List S
  | [] => [(a, none)]
  | s :: l => (a, s.1) :: (match s.2 with | none => [] | some p => notR (some p) l)
theorem normed_open {s : S} {l : List S} (h : Normed (s :: l)) (he : s.2 = none) : l = [] := by
  cases l with
  | nil => rfl
  | cons u l =>
    have h1 := h.2.1 u (by simp)
    rw [he] at h1
    have := ord_cut.anti none u.1
    have := le_end u.1
    omega
theorem notR_in : ∀ (l : List S) (a x : C), Normed l → (In cmpC (notR a l) x ↔ In cmpC (gaps cmpC none a l) x)
  | [], a, x, _ => by
    show In cmpC [(a, none)] x ↔ In cmpC (only cmpC a none) x
    rw [in_cons, in_only ord_cut]
    exact ⟨fun h => h.resolve_right (in_nil x), .inl⟩
  | s :: l, a, x, hn => by
    show In cmpC ((a, s.1) :: (match s.2 with | none => [] | some p => notR (some p) l)) x ↔ In cmpC (only cmpC a s.1 ++ gaps cmpC none s.2 l) x
    rw [in_cons, in_app, in_only ord_cut]
    cases h : s.2 with
    | none =>
      obtain rfl := normed_open hn h
      have e : gaps cmpC none none ([] : List S) = [] := by decide
      rw [e]
    | some p => rw [notR_in l (some p) x hn.2.2]
theorem notR_nrm {l : List S} (hn : Normed l) : nrm (notR start l) = notL l :=
  (nrm_uniq (not_nm hn) fun x => (notR_in l start x hn).symm).symm
theorem notR_ok : ∀ (l : List S) (a : C), okL l → okC a → (∃ p, a = some p) → okL (notR a l)
  | [], a, _, ha, hp => by
    intro s hs
    obtain rfl : s = (a, none) := by simpa [notR] using hs
    exact ⟨hp, ha, ok_end⟩
  | t :: l, a, hl, ha, hp => by
    have ht := hl t (by simp)
    have hl2 : okL l := fun s hs => hl s (by simp [hs])
    intro s hs
    have hs : s ∈ (a, t.1) :: (match t.2 with | none => [] | some p => notR (some p) l) := hs
    rcases List.mem_cons.1 hs with rfl | hs
    · exact ⟨hp, ha, ht.2.1⟩
    · cases h2 : t.2 with
      | none => rw [h2] at hs; exact nomatch hs
      | some q =>
        rw [h2] at hs
        exact notR_ok l (some q) hl2 (h2 ▸ ht.2.2) ⟨q, rfl⟩ s hs
theorem notR_len : ∀ (l : List S) (a : C), (notR a l).length ≤ l.length + 1
  | [], _ => by simp [notR]
  | t :: l, a => by
    show ((a, t.1) :: (match t.2 with | none => [] | some p => notR (some p) l)).length ≤ _
    cases t.2 with
    | none => simp
    | some q => have := notR_len l (some q); simp only [List.length_cons]; omega
/-- Only the last of a normed row may have no end. -/
theorem open_last : ∀ {l : List S}, Normed l → ∀ (i : Nat) (s : S), l[i]? = some s → s.2 = none → i + 1 = l.length
  | [], _, i, s, h, _ => by simp at h
  | t :: l, hn, 0, s, h, he => by
    obtain rfl : t = s := by simpa using h
    cases l with
    | nil => rfl
    | cons u l =>
      have := hn.2.1 u (by simp)
      rw [he] at this
      have := ord_cut.anti none u.1
      have := le_end u.1
      omega
  | t :: l, hn, i + 1, s, h, he => by
    have := open_last hn.2.2 i s (by simpa using h) he
    simp only [List.length_cons]; omega
end Go.Sp
