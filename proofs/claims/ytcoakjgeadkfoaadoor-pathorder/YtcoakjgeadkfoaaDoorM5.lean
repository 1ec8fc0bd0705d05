/-
  Plain mathematics of digits: a number's digits are it.
-/
import Derived.Test.YtcoakjgeadkfoaaDoorM1
namespace Go.Tx
set_option linter.unusedVariables false

theorem dg_val (n : Nat) (h : n < 10) : ((dg n).toNat : Int) = 48 + n := by
  unfold dg; rw [UInt8.toNat_ofNat']; omega
theorem dg_dig (n : Nat) (h : n < 10) : isDig (dg n) = true := by
  have := dg_val n h
  simp [isDig]; omega

theorem digF_dig : ∀ f n, (digF f n).all isDig = true
  | 0, _ => rfl
  | f + 1, n => by
    rw [digF]
    by_cases h : n < 10
    · rw [if_pos h]; simp [dg_dig n h]
    · rw [if_neg h, List.all_append, digF_dig f (n / 10)]
      simp [dg_dig (n % 10) (by omega)]

theorem digF_val : ∀ f n, n < 10 ^ (f + 1) → numVal (digF (f + 1) n) = n
  | 0, n, h => by
    have h10 : n < 10 := by simpa using h
    rw [digF, if_pos h10]
    simp [numVal, dg_val n h10]; omega
  | f + 1, n, h => by
    rw [digF]
    by_cases h10 : n < 10
    · rw [if_pos h10]; simp [numVal, dg_val n h10]; omega
    · rw [if_neg h10, numVal_snoc, digF_val f (n / 10) (by rw [Nat.pow_succ] at h; omega), dg_val (n % 10) (by omega)]
      omega

theorem digF_ne : ∀ f n, digF (f + 1) n ≠ []
  | f, n => by
    rw [digF]
    by_cases h10 : n < 10
    · rw [if_pos h10]; simp
    · rw [if_neg h10]; simp

theorem digF_head : ∀ f n, 1 ≤ n → n < 10 ^ (f + 1) → ∃ c, (digF (f + 1) n).head? = some c ∧ c ≠ 48
  | f, n, h1, h => by
    by_cases h10 : n < 10
    · rw [digF, if_pos h10]
      refine ⟨dg n, rfl, fun e => ?_⟩
      have := dg_val n h10
      rw [e] at this
      have h48 : ((48 : UInt8).toNat : Int) = 48 := rfl
      omega
    · cases f with
      | zero => simp at h; omega
      | succ f =>
        obtain ⟨c, hc, hne⟩ := digF_head f (n / 10) (by omega) (by rw [Nat.pow_succ] at h; omega)
        rw [digF, if_neg h10]
        refine ⟨c, ?_, hne⟩
        rw [List.head?_append, hc]; rfl

theorem dig_len (n : Nat) : 1 ≤ (digF 9 n).length ∧ (digF 9 n).length ≤ 9 := by
  have h1 := digF_len 9 n
  have h2 : (digF 9 n).length ≠ 0 := fun e => digF_ne 8 n (List.eq_nil_of_length_eq_zero e)
  omega

theorem dig_ok (n : Nat) (h : n < 1000000000) : okNum (digF 9 n) = true ∧ numR (digF 9 n) = n ∧ okNum (48 :: digF 9 n) = false := by
  have h' : n < 10 ^ (8 + 1) := by simpa using h
  obtain ⟨hl1, hl2⟩ := dig_len n
  have hd := digF_dig 9 n
  have hz : (decide (1 < (digF 9 n).length) && ((digF 9 n).head? == some 48)) = false := by
    by_cases h0 : n = 0
    · subst h0; decide
    · obtain ⟨c, hc, hne⟩ := digF_head 8 n (by omega) h'
      rw [hc]; simp [hne]
  have hok : okNum (digF 9 n) = true := by
    unfold okNum; rw [hz, hd]; simp [hl1, hl2]
  refine ⟨hok, ?_, ?_⟩
  · rw [numR, if_pos hok]; exact digF_val 8 n h'
  · unfold okNum
    have : decide (1 < (48 :: digF 9 n).length) = true := by simp; omega
    rw [this]; simp

end Go.Tx
