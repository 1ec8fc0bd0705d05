/-
  Numbers as words.
-/
import Derived.Test.YtiicikieemfcmaaGreatDoorM13
namespace Go.Vr
set_option linter.unusedVariables false
open Go.Lib Go.Tx

theorem dec_head (n : Nat) (h : 1 < (decDigits n).length) : (decDigits n).head? ≠ some 48 := by
  intro e
  have hv := dec_val n
  have hd := dec_dig n
  have hl := decDigits_length n
  cases he : decDigits n with
  | nil => rw [he] at e; cases e
  | cons c l =>
    rw [he] at e hv hd hl h
    simp only [List.head?_cons, Option.some.injEq] at e
    subst e
    rw [numVal_cons] at hv
    simp only [List.length_cons] at h hl
    have hl2 : l.all isDig = true := by simp only [List.all_cons, Bool.and_eq_true] at hd; exact hd.2
    have h1 := numVal_lt l hl2
    have h2 := nDigits_low n (l.length - 1) (by omega)
    have h3 : l.length - 1 + 1 = l.length := by omega
    rw [h3] at h2
    have h4 : ((10 : Nat) ^ l.length : Nat) = ((10 : Int) ^ l.length) := by simp
    have h5 : (((48 : UInt8).toNat : Int) - 48) * 10 ^ l.length = 0 := by simp
    rw [h5] at hv
    have h6 : ((10 ^ l.length : Nat) : Int) ≤ (n : Int) := Int.ofNat_le.2 h2
    rw [h4] at h6
    omega
theorem dec_word (n : Nat) : wordOk (decDigits n) = true := by
  have h1 := dec_dig n
  have h2 := dec_ne n
  unfold wordOk
  rw [dec_digs, all_imp dig_wd _ h1]
  have h3 : (decDigits n).isEmpty = false := by cases e : decDigits n with
    | nil => exact absurd e h2
    | cons c l => rfl
  rw [h3]
  by_cases h : 1 < (decDigits n).length
  · have := dec_head n h
    simp [this]
  · simp [h]
theorem dec_words (n : Nat) : words (decDigits n) = [decDigits n] := words_one _ (dig_ne (dec_dig n) 46 (by decide))
theorem num_ver_ok (n : Nat) (h : n < 1099511627776) : (V.mk 0 0 0 (str (itoa n))).ok = true := by
  have h1 : partOk 0 = true := by decide
  have h2 : nDigits n ≤ 13 := nDigits_le n 12 (by simp; omega)
  unfold V.ok verOk preOk
  simp only [h1, str_list, itoa_nat, dec_words, List.all_cons, List.all_nil, dec_word, decDigits_length]
  simp; omega
theorem num_ver_cmp (x y : Nat) : cmpV (V.mk 0 0 0 (str (itoa x))) (V.mk 0 0 0 (str (itoa y))) = compareInt x y := by
  have n1 : none1 (decDigits x) = 0 := if_neg (dec_ne x)
  have n2 : none1 (decDigits y) = 0 := if_neg (dec_ne y)
  unfold cmpV cmpP
  simp only [str_list, itoa_nat, dec_words, n1, n2, ord_int.refl, seq_zero]
  show seq (cmpW (decDigits x) (decDigits y)) 0 = _
  rw [dec_cmp]
  unfold seq
  split <;> simp_all

end Go.Vr
