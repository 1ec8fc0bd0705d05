/-
  Plain mathematics of the last word.
-/
import Derived.Test.YtcoakjgeadkfoaaDoorM12
import Derived.Lib.LastIndexByte
namespace Go.Vr
set_option linter.unusedVariables false
open Go.Lib Go.Tx

theorem lastW_app (a b : Bs) (h : ∀ c ∈ b, c ≠ 46) : lastW (a ++ 46 :: b) = b := by
  have e : words (a ++ 46 :: b) = words a ++ [b] := by rw [words_app, words_one b h]
  unfold lastW
  simp only [e, List.getLast_append, List.getLast_singleton]
  simp
theorem lastW_none (b : Bs) (h : ∀ c ∈ b, c ≠ 46) : lastW b = b := by
  have e := words_one b h
  unfold lastW
  simp only [e, List.getLast_singleton]

theorem get_data (s : ByteArray) (j : Nat) (h : j < s.data.toList.length) : s.data[j]! = s.data.toList[j] := by
  have h2 : j < s.data.size := by simpa using h
  rw [getElem!_pos s.data j h2]; rfl

theorem last_is (s : ByteArray) : -1 ≤ lastIndexByte s 46 ∧ lastIndexByte s 46 < s.size ∧ s.data.toList.drop (lastIndexByte s 46 + 1).toNat = lastW s.data.toList := by
  have hl := len_eq s
  rcases lastIdx_spec s 46 s.size with ⟨e, hn⟩ | ⟨i, hi, e, hc, hn⟩
  · have e' : lastIndexByte s 46 = -1 := e
    rw [e']
    refine ⟨by omega, by omega, ?_⟩
    show s.data.toList.drop 0 = _
    rw [List.drop_zero, lastW_none]
    intro c hc h
    subst h
    obtain ⟨j, hj, e2⟩ := List.getElem_of_mem hc
    refine hn j (by omega) ?_
    rw [get_data s j hj, e2]; rfl
  · have e' : lastIndexByte s 46 = i := e
    rw [e']
    refine ⟨by omega, by omega, ?_⟩
    rw [show ((i : Int) + 1).toNat = i + 1 by omega]
    have hil : i < s.data.toList.length := by omega
    have hci : s.data.toList[i] = 46 := by
      rw [get_data s i hil] at hc
      exact UInt8.toNat_inj.1 (by show _ = 46; omega)
    have hs : s.data.toList = s.data.toList.take i ++ 46 :: s.data.toList.drop (i + 1) := by
      have := List.take_append_drop i s.data.toList
      rw [List.drop_eq_getElem_cons hil, hci] at this
      exact this.symm
    conv => rhs; rw [hs]
    rw [lastW_app]
    intro c hc2 h
    subst h
    obtain ⟨j, hj, e2⟩ := List.getElem_of_mem hc2
    rw [List.length_drop] at hj
    rw [List.getElem_drop] at e2
    refine hn (i + 1 + j) (by omega) (by omega) ?_
    rw [get_data s (i + 1 + j) (by omega), e2]; rfl

/-- As the program asks whether a word is a stamp. -/
def cutOk (x y : Bs) : Bool := decide (x.length = 14) && x.all isDig && (decide (y.length = 12) && idOk y)
theorem cut_form (w x y : Bs) (b : Bool) (h : cut w [45] = (x, y, b)) : w = x ++ 45 :: y ∨ (y = [] ∧ w = x) := by
  unfold cut at h
  split at h
  · rename_i hi
    injection h with h1 h2
    injection h2 with h2 h3
    left
    rw [index_one] at hi h1 h2
    obtain ⟨i, hi2⟩ := Int.eq_ofNat_of_zero_le hi
    rw [hi2, Int.toNat_natCast] at h1 h2
    obtain ⟨g1, g2⟩ := indexByte_some hi2
    obtain ⟨hlt, e⟩ := List.getElem?_eq_some_iff.1 g1
    have := List.take_append_drop i w
    rw [List.drop_eq_getElem_cons hlt, e] at this
    rw [← this, h1]
    simp at h2
    rw [h2]
  · injection h with h1 h2
    injection h2 with h2 h3
    exact .inr ⟨h2.symm, h1⟩
theorem stamp_cut (w : Bs) : isStamp w = cutOk (cut w [45]).1 (cut w [45]).2.1 ∧ (isStamp w = true → (cut w [45]).1 = w.take 14 ∧ (cut w [45]).2.1 = w.drop 15) := by
  have key : isStamp w = true → (cut w [45]).1 = w.take 14 ∧ (cut w [45]).2.1 = w.drop 15 := by
    intro h
    simp only [isStamp, Bool.and_eq_true, decide_eq_true_eq] at h
    obtain ⟨⟨⟨h1, h2⟩, h3⟩, h4⟩ := h
    have hs : w = w.take 14 ++ 45 :: w.drop 15 := by
      obtain ⟨hlt, e⟩ := List.getElem?_eq_some_iff.1 h2
      have := List.take_append_drop 14 w
      rw [List.drop_eq_getElem_cons hlt, e] at this
      exact this.symm
    have hc := cut_at (w.take 14) (w.drop 15) 45 (dig_ne h3 45 rfl)
    rw [← hs] at hc
    rw [hc]; exact ⟨rfl, rfl⟩
  refine ⟨?_, key⟩
  cases h : isStamp w with
  | true =>
    obtain ⟨k1, k2⟩ := key h
    simp only [isStamp, Bool.and_eq_true, decide_eq_true_eq] at h
    obtain ⟨⟨⟨h1, h2⟩, h3⟩, h4⟩ := h
    rw [k1, k2]
    unfold cutOk idOk
    rw [h3, h4, List.length_take, List.length_drop, h1]; rfl
  | false =>
    cases h2 : cutOk (cut w [45]).1 (cut w [45]).2.1 with
    | false => rfl
    | true =>
      exfalso
      have hf := cut_form w (cut w [45]).1 (cut w [45]).2.1 (cut w [45]).2.2 rfl
      generalize (cut w [45]).1 = x at *
      generalize (cut w [45]).2.1 = y at *
      simp only [cutOk, idOk, Bool.and_eq_true, decide_eq_true_eq] at h2
      obtain ⟨⟨a1, a2⟩, a3, ⟨a4, a5⟩, a6⟩ := h2
      rcases hf with hf | ⟨hy, _⟩
      · have : isStamp w = true := by
          subst hf
          have e1 : (x ++ 45 :: y).take 14 = x := by rw [← a1]; simp
          have e2 : (x ++ 45 :: y).drop 15 = y := by rw [show 15 = x.length + 1 by omega, List.drop_append]; simp
          have e3 : (x ++ 45 :: y)[14]? = some 45 := by rw [List.getElem?_append_right (by omega), a1]; rfl
          have e4 : (x ++ 45 :: y).length = 27 := by rw [List.length_append, List.length_cons]; omega
          unfold isStamp
          rw [e1, e2, e3, e4, a2, a6]; rfl
        rw [this] at h; cases h
      · subst hy; simp at a3
theorem num_when (w : Bs) (h : isStamp w = true) : num (w.take 14) = numVal (w.take 14) := by
  simp only [isStamp, Bool.and_eq_true, decide_eq_true_eq] at h
  obtain ⟨⟨⟨h1, h2⟩, h3⟩, h4⟩ := h
  have hl : (w.take 14).length = 14 := by rw [List.length_take]; omega
  unfold num
  rw [num_digits (w.take 14) (fun e => by rw [e] at hl; simp at hl) (by omega) h3]

end Go.Vr
