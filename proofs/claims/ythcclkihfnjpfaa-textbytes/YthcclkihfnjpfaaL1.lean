/-
  The walk of TextBytes.
-/
import Derived.Test.YthcclkihfnjpfaaW15
namespace Go.Proofs.Ythcclkihfnjpfaa.textBytes
set_option linter.unusedVariables false
open Go.RowKit Go.Tx Go.Joins
attribute [local go_sem ↓] Go.wp_at_zero Go.wp_at_succ

theorem ins_plain (s : ByteArray) (k : Nat) (n : Int) (h : plain s.data.toList = true) (h0 : 0 ≤ n) (h1 : n ≤ 255) : plain (s.extract 0 k ++ b1 n ++ s.extract k s.size).data.toList = plB n := by
  rw [ba_app, ba_app, plain_app, plain_app, plain_b1 n h0 h1, ext_list, rest_list, plain_take _ _ h, plain_drop _ _ h]; simp

set_option maxHeartbeats 1000000 in
set_option maxRecDepth 100000 in
theorem walk (a0 : Int) (a1 : Option Addr) (len1 cap1 : Nat) (z1 : List Int) (a2 : Int) (w : World) (w0 : (Lit.int .u8 a0).wf = true) (w1 : IsRow .u8 w a1 len1 cap1 z1) (w2 : (Lit.int .i64 a2).wf = true) :
    Calls Try.prog 11 #[.int .u8 a0, .slice a1 len1 cap1, .int .i64 a2] w fun e w' => e = .returned (.bool true) ∧ Below w.heap.size w w' := by
  obtain ⟨b1, b2⟩ := bd8 w0
  obtain ⟨c1, c2⟩ := bd64 w2
  have hr := w1.row
  have hle := hr.le
  have hmx := hr.mx
  unfold maxLen at hmx
  clear w0 w1 w2
  by_cases hlen : 60 < len1
  · go_enter Try.func11, Try.ntmps11
    go_wp2_with (go_at_call 13; refine (known_any w).mono ?_; rintro e v1 ⟨rfl, hv1⟩)
    go_ret
    exact ⟨rfl, hv1⟩
  have hp := sg_plain ((z1.take len1).take 60)
  have hz := sg_size (z1.take len1) 60
  obtain ⟨pb, hpb⟩ : ∃ pb, plB a0 = pb := ⟨_, rfl⟩
  have HPB : Hid (plB a0 = pb) := hpb
  have hcase : (a0 = 9 ∧ pb = true) ∨ (a0 = 10 ∧ pb = true) ∨ ((a0 == 9) = false ∧ (a0 == 10) = false ∧ decide (32 ≤ a0) = false ∧ pb = false) ∨ ((a0 == 9) = false ∧ (a0 == 10) = false ∧ decide (32 ≤ a0) = true ∧ decide (a0 ≤ 126) = true ∧ pb = true) ∨ ((a0 == 9) = false ∧ (a0 == 10) = false ∧ decide (32 ≤ a0) = true ∧ decide (a0 ≤ 126) = false ∧ pb = false) := by
    subst hpb
    by_cases e1 : a0 = 9
    · exact .inl ⟨e1, by rw [e1]; rfl⟩
    by_cases e2 : a0 = 10
    · exact .inr (.inl ⟨e2, by rw [e2]; rfl⟩)
    right; right
    by_cases e3 : 32 ≤ a0
    · right
      by_cases e4 : a0 ≤ 126
      · exact .inl ⟨by simpa using e1, by simpa using e2, by simpa using e3, by simpa using e4, by simp [plB, prB, e3, e4]⟩
      · exact .inr ⟨by simpa using e1, by simpa using e2, by simpa using e3, by simpa using e4, by simp [plB, prB, e1, e2]; omega⟩
    · exact .inl ⟨by simpa using e1, by simpa using e2, by simpa using e3, by simp [plB, prB, e1, e2]; omega⟩
  clear hpb
  rcases hcase with ⟨rfl, rfl⟩ | ⟨rfl, rfl⟩ | ⟨d1, d2, d3, rfl⟩ | ⟨d1, d2, d3, d4, rfl⟩ | ⟨d1, d2, d3, d4, rfl⟩
  all_goals
    go_enter Try.func11, Try.ntmps11
    go_wp2_with (go_at_call 13; refine (known_any w).mono ?_; rintro e v1 ⟨rfl, hv1⟩)
    refine (lplain_any a1 len1 cap1 _ 60 v1 (hr.later hv1) (by omega)).mono ?_
    rintro e v2 ⟨rfl, hv2⟩
    have hB2 := hv1.trans (hv2.mono hv1.size)
    have HP : Hid (plain (str (sg ((z1.take len1).take 60))).data.toList = true) := hp
    generalize str (sg ((z1.take len1).take 60)) = s at *
    clear hv2 hv1 hp hr hle hmx
    go_wp2_with fail
    refine (within_nat _ _ _ (by omega) (by omega) (by omega) (by omega)).mono ?_
    rintro e v3 ⟨k, rfl, hk, -, rfl⟩
    have hk1 : k ≤ s.size := by omega
    have i1 : (0 : Int) ≤ (k : Int) := by omega
    have i2 : (k : Int) ≤ (s.size : Int) := by omega
    go_wp2_with fail
    have hcv := fun (n : Int) (W : World) => conv_drew W n
    have s1 : (s.extract 0 k).size = k := by simp; omega
    have s2 : (s.extract k s.size).size = s.size - k := by rw [← len_eq, rest_list, List.length_drop, len_eq]
    have s3 := b1_size
    have HPP := fun n h0 h1 => ins_plain s k n HP.out h0 h1
    go_region_with (go_at_call 36; refine (plain_any _ _ ?_).mono ?_; (first | (unfold maxLen; simp [s1, s2, s3]; omega) | (unfold maxLen; omega)); (first | rw [HPP _ (by omega) (by omega), HPB.out] | rw [HP.out]); rintro e v4 ⟨rfl, rfl⟩)
    go_wp2_with fail
    go_ret
    exact ⟨rfl, (hB2.alloc hB2.size _).drew⟩

end Go.Proofs.Ythcclkihfnjpfaa.textBytes
