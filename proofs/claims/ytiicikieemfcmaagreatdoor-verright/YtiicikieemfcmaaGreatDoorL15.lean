/-
  The walk of VerRight.
-/
import Derived.Test.YtiicikieemfcmaaGreatDoorU18
namespace Go.Proofs.YtiicikieemfcmaaGreatDoor.verRight
set_option linter.unusedSimpArgs false
set_option linter.unusedVariables false
open Go.RowKit Go.Vr Go.Sort Go.Tx Go.Lib
attribute [local go_sem] setCellDrewN allocDrewN

theorem ok_first {v : V} (h : v.ok = true) (a : Int) : (V.mk a v.b v.c v.p).ok = (decide (0 ≤ a) && decide (a ≤ 999999)) := by
  unfold V.ok verOk at h ⊢
  simp only [Bool.and_eq_true] at h
  obtain ⟨⟨⟨h1, h2⟩, h3⟩, h4⟩ := h
  simp only [h2, h3, h4, Bool.and_true]
  rfl

set_option maxHeartbeats 4000000 in
set_option maxRecDepth 100000 in
theorem walk (a0 a1 a2 : Int) (s : ByteArray) (a4 a5 : Int) (w : World) (he : Env w) (h0 : -9223372036854775808 ≤ a0 ∧ a0 ≤ 9223372036854775807) (h1 : -9223372036854775808 ≤ a1 ∧ a1 ≤ 9223372036854775807) (h2 : -9223372036854775808 ≤ a2 ∧ a2 ≤ 9223372036854775807) (hs : s.size ≤ maxLen) (h4 : -9223372036854775808 ≤ a4 ∧ a4 ≤ 9223372036854775807) (h5 : -9223372036854775808 ≤ a5 ∧ a5 ≤ 9223372036854775807) :
    Calls Tryz.prog 5 #[.int .i64 a0, .int .i64 a1, .int .i64 a2, .string s, .int .i64 a4, .int .i64 a5] w fun e w' => e = .returned (.bool true) ∧ Below w.heap.size w w' := by
  have HE := hide he
  clear he
  by_cases h80 : 80 < s.size
  · have d80 : decide ((80 : Int) < (s.size : Int)) = true := by simp; omega
    go_enter Tryz.func5, Tryz.ntmps5
    go_wp2_with fail
    refine (known_any w HE.out).mono ?_
    rintro e w1 ⟨rfl, b1⟩
    go_wp2_with fail
    go_ret
    exact ⟨rfl, b1⟩
  have d80 : decide ((80 : Int) < (s.size : Int)) = false := by simp; omega
  go_enter Tryz.func5, Tryz.ntmps5
  go_wp2_with fail
  refine (known_any w HE.out).mono ?_
  rintro e w1 ⟨rfl, b1⟩
  have E1 := hide (HE.out.later b1)
  clear HE
  have ba1 : Below w1.heap.size w1 (w1.alloc (.cells #[.int .i64 a0, .int .i64 a1, .int .i64 a2, .string s] 24)) := (Below.refl _ _).alloc (Nat.le_refl _) _
  have hB1 := step b1 ba1
  have E2 := hide (E1.out.later ba1)
  have V1 := hide (VarAt.new w1 ⟨a0, a1, a2, s⟩)
  clear b1 ba1 E1
  go_wp2_with fail
  refine (make_any a4 a5 _ h4 h5).mono ?_
  rintro e w2 ⟨v, rfl, hv, b2⟩
  have hz := ok_size hv
  obtain ⟨xa, xb, xc, xp⟩ := v
  clear hv hz
  have ba2 : Below w2.heap.size w2 (w2.alloc (.cells #[.int .i64 xa, .int .i64 xb, .int .i64 xc, .string s] 24)) := (Below.refl _ _).alloc (Nat.le_refl _) _
  have hB2 := step (step hB1 b2) ba2
  have E3 := hide ((E2.out.later b2).later ba2)
  have V2 := hide ((V1.out.later b2).later ba2)
  have W2 := hide (VarAt.new w2 ⟨xa, xb, xc, s⟩)
  clear b2 ba2 E2 hB1 V1
  go_wp2_with fail
  refine (make_any a4 a5 _ h4 h5).mono ?_
  rintro e w3 ⟨v, rfl, hv, b3⟩
  have hz := ok_size hv
  have ho := ok_first hv a0
  obtain ⟨ya, yb, yc, yp⟩ := v
  clear hv
  have ba3 : Below w3.heap.size w3 (w3.alloc (.cells #[.int .i64 a0, .int .i64 yb, .int .i64 yc, .string yp] 24)) := (Below.refl _ _).alloc (Nat.le_refl _) _
  have hB3 := step (step hB2 b3) ba3
  have E4 := hide ((E3.out.later b3).later ba3)
  have V3 := hide ((V2.out.later b3).later ba3)
  have W3 := hide ((W2.out.later b3).later ba3)
  have X3 := hide (VarAt.new w3 ⟨a0, yb, yc, yp⟩)
  clear b3 ba3 E3 hB2 V2 W2
  go_wp2_with fail
  generalize w3.alloc (.cells #[.int .i64 a0, .int .i64 yb, .int .i64 yc, .string yp] 24) = W at *
  generalize w1.heap.size = N1 at *
  generalize w2.heap.size = N2 at *
  generalize w3.heap.size = N3 at *
  obtain ⟨-, v0, v1, v2, v3, -, -, -, -⟩ := V3.out
  obtain ⟨-, u0, u1, u2, u3, -, -, -, -⟩ := W3.out
  obtain ⟨-, x0, x1, x2, x3, -, -, -, -⟩ := X3.out
  have k0 := cell_regrown v0
  have k1 := cell_regrown v1
  have k2 := cell_regrown v2
  have k3 := cell_regrown v3
  have k4 := cell_regrown u0
  have k5 := cell_regrown u1
  have k6 := cell_regrown u2
  have k7 := cell_regrown u3
  have k8 := cell_regrown x0
  have k9 := cell_regrown x1
  have k10 := cell_regrown x2
  have k11 := cell_regrown x3
  have F1 : Hid (∀ d os, Calls Tryz.prog 20 #[val ⟨a0, a1, a2, s⟩] (grow (redrawn W d) os) fun e w'' => e = .returned (.bool (V.ok ⟨a0, a1, a2, s⟩)) ∧ ∃ q : Regrown, w'' = grow (redrawn W q.d) q.os) := fun d os => Calls.regrown_of (right_any ⟨a0, a1, a2, s⟩ _ hs (E4.out.later (below_regrown W d os)))
  have G1 : Hid (∀ d os, Calls Tryz.prog 24 #[val ⟨a0, a1, a2, s⟩] (grow (redrawn W d) os) fun e w'' => e = .returned (.bool (V.ok ⟨a0, a1, a2, s⟩)) ∧ ∃ q : Regrown, w'' = grow (redrawn W q.d) q.os) := fun d os => Calls.regrown_of (rright_any a0 a1 a2 s _ hs)
  have F2 : Hid (∀ d os, Calls Tryz.prog 20 #[val ⟨xa, xb, xc, s⟩] (grow (redrawn W d) os) fun e w'' => e = .returned (.bool (V.ok ⟨xa, xb, xc, s⟩)) ∧ ∃ q : Regrown, w'' = grow (redrawn W q.d) q.os) := fun d os => Calls.regrown_of (right_any ⟨xa, xb, xc, s⟩ _ hs (E4.out.later (below_regrown W d os)))
  have G2 : Hid (∀ d os, Calls Tryz.prog 24 #[val ⟨xa, xb, xc, s⟩] (grow (redrawn W d) os) fun e w'' => e = .returned (.bool (V.ok ⟨xa, xb, xc, s⟩)) ∧ ∃ q : Regrown, w'' = grow (redrawn W q.d) q.os) := fun d os => Calls.regrown_of (rright_any xa xb xc s _ hs)
  have F3 : Hid (∀ d os, Calls Tryz.prog 20 #[val ⟨a0, yb, yc, yp⟩] (grow (redrawn W d) os) fun e w'' => e = .returned (.bool (decide (0 ≤ a0) && decide (a0 ≤ 999999))) ∧ ∃ q : Regrown, w'' = grow (redrawn W q.d) q.os) := fun d os => by
    have := right_any ⟨a0, yb, yc, yp⟩ (grow (redrawn W d) os) (by unfold maxLen; show yp.size ≤ _; have : yp.size ≤ 40 := hz; omega) (E4.out.later (below_regrown W d os))
    rw [ho] at this
    exact Calls.regrown_of this
  generalize V.ok ⟨a0, a1, a2, s⟩ = o1 at *
  generalize V.ok ⟨xa, xb, xc, s⟩ = o2 at *
  clear ho v0 v1 v2 v3 u0 u1 u2 u3 x0 x1 x2 x3 V3 W3 X3 hz
  by_cases q0 : 0 ≤ a0
  · have dq : decide (0 ≤ a0) = true := by simpa using q0
    rw [dq, Bool.true_and] at F3
    refine wp_region_quiet_below mixed (by kernel_rfl) ?_
    quiet_step (fail)
    quiet_step (exact F1.out _ _)
    quiet_step (fail)
    quiet_step (exact G1.out _ _)
    iterate 3 (quiet_step (fail))
    quiet_step (exact F2.out _ _)
    quiet_step (fail)
    quiet_step (exact G2.out _ _)
    iterate 4 (quiet_step (fail))
    quiet_step (exact F3.out _ _)
    iterate 9 (quiet_step (fail))
    refine wpQuiet_nil ?_
    intro w5 hw5
    have r5 := regrown_below hw5
    have hB5 := step hB3 r5
    go_wp2_with fail
    go_ret
    exact ⟨by first | rfl | simp, hB5⟩
  · have dq : decide (0 ≤ a0) = false := by simpa using q0
    rw [dq, Bool.false_and] at F3
    refine wp_region_quiet_below mixed (by kernel_rfl) ?_
    quiet_step (fail)
    quiet_step (exact F1.out _ _)
    quiet_step (fail)
    quiet_step (exact G1.out _ _)
    iterate 3 (quiet_step (fail))
    quiet_step (exact F2.out _ _)
    quiet_step (fail)
    quiet_step (exact G2.out _ _)
    iterate 4 (quiet_step (fail))
    quiet_step (exact F3.out _ _)
    iterate 9 (quiet_step (fail))
    refine wpQuiet_nil ?_
    intro w5 hw5
    have r5 := regrown_below hw5
    have hB5 := step hB3 r5
    go_wp2_with fail
    go_ret
    exact ⟨by first | rfl | simp, hB5⟩

end Go.Proofs.YtiicikieemfcmaaGreatDoor.verRight
