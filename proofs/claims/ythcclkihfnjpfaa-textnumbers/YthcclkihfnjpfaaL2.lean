/-
  The walk of TextNumbers.
-/
import Derived.Test.YthcclkihfnjpfaaW15
import Derived.Test.YthcclkihfnjpfaaM5
namespace Go.Proofs.Ythcclkihfnjpfaa.textNumbers
set_option linter.unusedVariables false
open Go.RowKit Go.Tx Go.Joins

set_option maxHeartbeats 1000000 in
set_option maxRecDepth 100000 in
theorem walk (a0 : ByteArray) (a1 : Int) (w : World) (w0 : a0.size ≤ maxLen) (w1 : (Lit.int .i64 a1).wf = true) :
    Calls Try.prog 5 #[.string a0, .int .i64 a1] w fun e w' => e = .returned (.bool true) ∧ Below w.heap.size w w' := by
  obtain ⟨c1, c2⟩ := bd64 w1
  have hmx := w0
  unfold maxLen at hmx
  by_cases hlen : 40 < a0.size
  · go_enter Try.func5, Try.ntmps5
    go_wp2_with (go_at_call 13; refine (known_any w).mono ?_; rintro e v1 ⟨rfl, hv1⟩)
    go_ret
    exact ⟨rfl, hv1⟩
  go_enter Try.func5, Try.ntmps5
  go_wp2_with fail
  refine (known_any w).mono ?_
  rintro e v1 ⟨rfl, hv1⟩
  go_wp2_with fail
  refine (number_any _ _ w0).mono ?_
  rintro e v2 ⟨rfl, rfl⟩
  go_wp2_with fail
  refine (rnumber_any _ _ w0).mono ?_
  rintro e v3 ⟨rfl, rfl⟩
  go_wp2_with fail
  refine (within_nat _ _ _ (by omega) (by omega) (by omega) (by omega)).mono ?_
  rintro e v4 ⟨k, rfl, hk, -, rfl⟩
  obtain ⟨q1, q2, q3⟩ := dig_ok k (by omega)
  obtain ⟨l1, l2⟩ := dig_len k
  have hz : (str (digF 9 k)).size ≤ 9 := by rw [str_size]; exact l2
  have q4 : okNum (ByteArray.mk #[48] ++ str (digF 9 k)).data.toList = false := by rw [ba_app]; exact q3
  have Q1 : Hid (okNum (str (digF 9 k)).data.toList = true) := q1
  have Q2 : Hid (numR (str (digF 9 k)).data.toList = k) := q2
  have Q4 : Hid _ := q4
  clear q1 q2 q3 q4 l1 l2
  go_wp2_with fail
  refine (digits_any 8 k _ (by simp; omega) (by omega)).mono ?_
  rintro e v5 ⟨rfl, h5⟩
  have hB5 := hv1.trans (h5.mono hv1.size)
  generalize hs : str (digF 9 k) = s at *
  have HS : Hid (str (digF 9 k) = s) := hs
  clear hs
  go_wp2_with fail
  refine (number_any _ _ (by unfold maxLen; omega)).mono ?_
  rw [Q1.out, Q2.out]
  rintro e v6 ⟨rfl, rfl⟩
  go_wp2_with fail
  refine (digits_any 8 k _ (by simp; omega) (by omega)).mono ?_
  rw [HS.out]
  rintro e v7 ⟨rfl, h7⟩
  have hB7 := hB5.trans (h7.mono hB5.size)
  go_wp2_with fail
  refine (number_any _ _ (by unfold maxLen; rw [ByteArray.size_append]; show 1 + s.size ≤ _; omega)).mono ?_
  rw [Q4.out]
  rintro e v8 ⟨rfl, rfl⟩
  go_wp2_with fail
  go_ret
  exact ⟨rfl, hB7⟩

end Go.Proofs.Ythcclkihfnjpfaa.textNumbers
