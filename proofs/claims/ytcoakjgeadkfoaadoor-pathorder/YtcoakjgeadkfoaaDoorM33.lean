/-
  Plain mathematics of paths: the last slash, majors as the program reads them, what the laws ask.
-/
import Derived.Test.YtcoakjgeadkfoaaDoorM32
namespace Go.Pa
set_option linter.unusedVariables false
open Go.Lib Go.Tx Go.Vr

theorem last_slash (s : ByteArray) : (lastIndexByte s 47 = -1 ∧ lastS s.data.toList = none) ∨ ∃ i : Nat, i < s.size ∧ lastIndexByte s 47 = i ∧ lastS s.data.toList = some ((s.extract 0 i).data.toList, (s.extract (i + 1) s.size).data.toList) := by
  have hl := len_eq s
  rcases lastIdx_spec s 47 s.size with ⟨e, hn⟩ | ⟨i, hi, e, hc, hn⟩
  · refine .inl ⟨e, lastS_of_none ?_⟩
    intro c hc h
    subst h
    obtain ⟨j, hj, e2⟩ := List.getElem_of_mem hc
    refine hn j (by omega) ?_
    rw [get_data s j hj, e2]; rfl
  · refine .inr ⟨i, hi, e, ?_⟩
    have hil : i < s.data.toList.length := by omega
    have hci : s.data.toList[i] = 47 := by
      rw [get_data s i hil] at hc
      exact UInt8.toNat_inj.1 (by show _ = 47; omega)
    have hs : s.data.toList = s.data.toList.take i ++ 47 :: s.data.toList.drop (i + 1) := by
      have := List.take_append_drop i s.data.toList
      rw [List.drop_eq_getElem_cons hil, hci] at this
      exact this.symm
    have e1 : (s.extract 0 i).data.toList = s.data.toList.take i := by rw [Lib.extract_data]; simp
    have e2 : (s.extract (i + 1) s.size).data.toList = s.data.toList.drop (i + 1) := by
      rw [Lib.extract_data, List.take_of_length_le]
      rw [List.length_drop]; omega
    rw [e1, e2]
    conv => lhs; rw [hs]
    refine lastS_app _ ?_ _
    intro c hc2 h
    subst h
    obtain ⟨j, hj, e3⟩ := List.getElem_of_mem hc2
    rw [List.length_drop] at hj
    rw [List.getElem_drop] at e3
    refine hn (i + 1 + j) (by omega) (by omega) ?_
    rw [get_data s (i + 1 + j) (by omega), e3]; rfl

theorem okNum_len {l : Bs} (h : okNum l = true) : l.length ≤ 9 := by
  unfold okNum at h
  simp only [Bool.and_eq_true, decide_eq_true_eq] at h
  exact h.1.1.2
theorem maj_atoi {d : Bs} {n : Int} (h : majW (118 :: d) = some n) : d = itoa n ∧ atoiAll d = .ok n := by
  obtain ⟨h1, h2, h3, h4⟩ := majW_some h
  obtain rfl : d = itoa n := by injection h1
  obtain ⟨_, h6, h7, h8⟩ := itoa_ok n (by omega) (by omega)
  exact ⟨rfl, by rw [num_digits _ h8 (by have := okNum_len h4; omega) h7, h6]⟩
theorem maj_ok {d : Bs} {v : Int} (h : atoiAll d = .ok v) : majW (118 :: d) = if 2 ≤ v ∧ v ≤ 999999 ∧ itoa v = d then some v else none := by
  by_cases c : 2 ≤ v ∧ v ≤ 999999 ∧ itoa v = d
  · rw [if_pos c, ← c.2.2]
    exact majW_of c.1 c.2.1
  · rw [if_neg c]
    cases e : majW (118 :: d) with
    | none => rfl
    | some n =>
      obtain ⟨h1, h2⟩ := maj_atoi e
      rw [h] at h2
      obtain rfl : v = n := by injection h2
      obtain ⟨_, h3, h4, _⟩ := majW_some e
      exact absurd ⟨h3, h4, h1.symm⟩ c
theorem maj_err {d : Bs} (h : ∀ v, atoiAll d ≠ .ok v) : majW (118 :: d) = none := by
  cases e : majW (118 :: d) with
  | none => rfl
  | some n => exact absurd (maj_atoi e).2 (h n)
theorem maj_novee {w : Bs} (h : hasPrefix w [118] = false) : majW w = none := by
  cases w with
  | nil => rfl
  | cons c d =>
    unfold majW
    refine if_neg ?_
    rintro ⟨rfl, _⟩
    exact absurd h (by unfold hasPrefix; simp)
theorem vee {w : Bs} (h : hasPrefix w [118] = true) : w = 118 :: trimPrefix w [118] := by
  cases w with
  | nil => exact absurd h (by decide)
  | cons c d =>
    have h2 : ((118 : UInt8) == c && List.isPrefixOf [] d) = true := h
    have hc : c = 118 := by rw [Bool.and_eq_true] at h2; exact (beq_iff_eq.1 h2.1).symm
    subst hc
    unfold trimPrefix
    rw [h]; rfl

theorem inside_self (a : Bs) : inside a a = true := (inside_iff a a).2 (.inl rfl)
theorem inside_more (a b : Bs) : inside (a ++ 47 :: b) a = true := (inside_iff _ _).2 (.inr ⟨b, rfl⟩)
theorem inside_less (a b : Bs) : inside a (a ++ 47 :: b) = false := by
  cases e : inside a (a ++ 47 :: b) with
  | false => rfl
  | true =>
    have := inside_len e
    rw [List.length_append, List.length_cons] at this
    omega
theorem inside_x (a : Bs) : inside (a ++ [120]) a = false := by
  cases e : inside (a ++ [120]) a with
  | false => rfl
  | true =>
    rcases (inside_iff _ _).1 e with h | ⟨t, h⟩
    · have := congrArg List.length h
      simp at this
    · have := List.append_cancel_left h
      simp at this
theorem fits_self (s : Bs) : fits s (maj s).2 = true := by unfold fits; simp
theorem fits_one (s : Bs) : fits s 1 = ((maj s).2 == 0) := by
  obtain ⟨_, _, h⟩ := maj_nonneg s
  unfold fits
  have : ((maj s).2 == 1) = false := by simpa using h
  rw [this]; simp
theorem maj_y (x : Bs) : maj (x ++ [47, 121]) = (x ++ [47, 121], 0) := by
  unfold maj
  rw [show x ++ [47, 121] = x ++ 47 :: [121] from rfl, lastS_app [121] (by decide) x]
  rfl
theorem may_xy (root : Bs) (a : Int) : may root a (root ++ [120, 47, 121]) = false := by
  have e : root ++ [120, 47, 121] = (root ++ [120]) ++ [47, 121] := by simp
  unfold may
  rw [e, maj_y, ← e]
  cases h : inside root (root ++ [120, 47, 121]) with
  | false => simp
  | true =>
    have := inside_len h
    simp at this
    omega
theorem may_self {root : Bs} {a : Int} (h : (maj root).2 = 0) (h0 : a = 0 ∨ a = 1) : may root a root = true := by
  unfold may fits
  rw [maj_zero h, inside_self, h]
  rcases h0 with rfl | rfl <;> rfl
theorem more_found {root : Bs} {a : Int} (l : List Bs) (h : (maj root).2 = 0) (h0 : a = 0 ∨ a = 1) : find root a (l ++ [root]) = some root := by
  obtain ⟨q, h1, h2, h3⟩ := find_may root a l root (may_self h h0)
  rw [h1]
  have h4 := cmpF_len h2
  rw [maj_zero h] at h4
  unfold may at h3
  rw [Bool.and_eq_true] at h3
  obtain ⟨h5, h6⟩ := h3
  have h7 : root = (maj q).1 := by
    rcases (inside_iff _ _).1 h6 with h7 | ⟨t, h7⟩
    · exact h7
    · have := congrArg List.length h7
      rw [List.length_append, List.length_cons] at this
      omega
  have h8 : (maj q).2 = 0 := by
    obtain ⟨g1, g2, g3⟩ := maj_nonneg q
    unfold fits at h5
    simp only [Bool.or_eq_true, Bool.and_eq_true, beq_iff_eq] at h5
    omega
  rw [h7, maj_zero h8]
theorem main_len {root : Bs} (h : (maj root).2 ≠ 0) : (maj root).1 ≠ root := by
  intro e
  have := congrArg List.length (maj_more h)
  rw [List.length_append, e] at this
  simp at this

end Go.Pa
