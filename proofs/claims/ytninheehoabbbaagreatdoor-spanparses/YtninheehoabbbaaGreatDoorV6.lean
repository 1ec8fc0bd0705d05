/-
  Contract of the reference's Text.
-/
import Derived.Test.YtninheehoabbbaaGreatDoorV5
import Derived.Lib.QuietBelow
import Derived.BigQuiet
namespace Go.Proofs.YtninheehoabbbaaGreatDoor
set_option linter.unusedSimpArgs false
set_option linter.unusedVariables false
open Go.RowKit Go.Vr Go.Sort Go.Tx Go.Lib

theorem mixed : Tryz.prog.follows .mixedOrders = true := by kernel_rfl
theorem itoa_size (n : Int) (h0 : 0 ≤ n) (h : n < 1000000000) : (Tx.str (Lib.itoa n)).size ≤ 9 := by
  rw [Tx.str_size]
  have := (itoa_ok n h0 h).1
  unfold Tx.okNum at this
  simp only [Bool.and_eq_true, decide_eq_true_eq] at this
  omega
theorem ba3 (x y z : ByteArray) : (x ++ y) ++ z = x ++ (y ++ z) := ba_ext (by simp)

set_option maxHeartbeats 800000 in
set_option maxRecDepth 100000 in
theorem rtext_any (a b c : Int) (p : ByteArray) (w : World) (hp : p.size ≤ 1000) (ha : 0 ≤ a ∧ a < 1000000000) (hb : 0 ≤ b ∧ b < 1000000000) (hc : 0 ≤ c ∧ c < 1000000000) :
    Calls Tryz.prog 65 #[ver a b c p] w fun e w' => e = .returned (.string (str (txt ⟨a, b, c, p⟩))) ∧ Below w.heap.size w w' := by
  have k0 := cell_regrown (w := w.alloc (.cells #[.int .i64 a, .int .i64 b, .int .i64 c, .string p] 37)) (a := ⟨w.heap.size, 0, none⟩) (v := .int .i64 a) (by simp [go_sem])
  have k1 := cell_regrown (w := w.alloc (.cells #[.int .i64 a, .int .i64 b, .int .i64 c, .string p] 37)) (a := ⟨w.heap.size, 1, none⟩) (v := .int .i64 b) (by simp [go_sem])
  have k2 := cell_regrown (w := w.alloc (.cells #[.int .i64 a, .int .i64 b, .int .i64 c, .string p] 37)) (a := ⟨w.heap.size, 2, none⟩) (v := .int .i64 c) (by simp [go_sem])
  have k3 := cell_regrown (w := w.alloc (.cells #[.int .i64 a, .int .i64 b, .int .i64 c, .string p] 37)) (a := ⟨w.heap.size, 3, none⟩) (v := .string p) (by simp [go_sem])
  have cD : ∀ n : Int, 0 ≤ n ∧ n < 1000000000 → ∀ W d os, Calls Tryz.prog 97 #[.int .i64 n] (grow (redrawn W d) os) fun e w'' => e = .returned (.string (str (itoa n))) ∧ ∃ p : Regrown, w'' = grow (redrawn W p.d) p.os := fun n h W d os => Calls.regrown_of (rdigits_any n _ h.1 (by omega))
  have HDa : Hid _ := cD a ha
  have HDb : Hid _ := cD b hb
  have HDc : Hid _ := cD c hc
  have s1 := itoa_size a ha.1 ha.2
  have s2 := itoa_size b hb.1 hb.2
  have s3 := itoa_size c hc.1 hc.2
  have HX : Hid (str (txt ⟨a, b, c, p⟩) = (((((⟨#[118]⟩ : ByteArray) ++ str (itoa a)) ++ ⟨#[46]⟩ ++ str (itoa b)) ++ ⟨#[46]⟩) ++ str (itoa c)) ++ str (tail p.data.toList)) := by
    show str (txt ⟨a, b, c, p⟩) = _
    refine ba_ext ?_
    simp [txt, ba_app, str_list]
  clear cD ha hb hc
  generalize str (itoa a) = xa at *
  generalize str (itoa b) = xb at *
  generalize str (itoa c) = xc at *
  have n1 : ¬ 9223372036854775807 < 1 + xa.size := by omega
  have n2 : ¬ 9223372036854775807 < 1 + xa.size + 1 := by omega
  have n3 : ¬ 9223372036854775807 < 1 + xa.size + 1 + xb.size := by omega
  have n4 : ¬ 9223372036854775807 < 1 + xa.size + 1 + xb.size + 1 := by omega
  have n5 : ¬ 9223372036854775807 < 1 + xa.size + 1 + xb.size + 1 + xc.size := by omega
  go_enter Tryz.func65, Tryz.ntmps65
  go_wp2_with fail
  refine wp_region_quiet_below mixed (by kernel_rfl) ?_
  iterate 2 (quiet_step (fail))
  quiet_step (exact HDa.out _ _ _)
  iterate 4 (quiet_step (fail))
  quiet_step (exact HDb.out _ _ _)
  iterate 4 (quiet_step (fail))
  quiet_step (exact HDc.out _ _ _)
  iterate 2 (quiet_step (fail))
  refine wpQuiet_nil ?_
  intro _ hw'
  obtain ⟨⟨dq, osq⟩, hw''⟩ := hw'
  subst hw''
  have hB := ((Below.refl w.heap.size w).alloc (Nat.le_refl _) (.cells #[.int .i64 a, .int .i64 b, .int .i64 c, .string p] 37)).trans ((below_regrown (w.alloc (.cells #[.int .i64 a, .int .i64 b, .int .i64 c, .string p] 37)) dq osq).mono (by simp))
  by_cases h0 : p.size = 0
  · have he : p.toList.isEmpty = true := by rw [empty_eq]; simpa using h0
    have HT : Hid (tail p.data.toList = []) := by
      show tail p.data.toList = []
      unfold tail
      rw [if_pos (List.eq_nil_of_length_eq_zero (by rw [len_eq]; exact h0))]
    clear h0
    go_wp2_with fail
    go_ret
    exact ⟨ret_str (by rw [HX.out, HT.out]; refine ba_ext ?_; simp [ba_app, str_list]), hB⟩
  · have he : p.toList.isEmpty = false := by rw [empty_eq]; simpa using h0
    have HT : Hid (tail p.data.toList = 45 :: p.data.toList) := by
      show tail p.data.toList = _
      unfold tail
      rw [if_neg (fun e => h0 (by have := len_eq p; rw [e] at this; simpa using this.symm))]
    clear h0
    go_wp2_with fail
    go_ret
    exact ⟨ret_str (by rw [HX.out, HT.out]; refine ba_ext ?_; simp [ba_app, str_list]), hB⟩

end Go.Proofs.YtninheehoabbbaaGreatDoor
