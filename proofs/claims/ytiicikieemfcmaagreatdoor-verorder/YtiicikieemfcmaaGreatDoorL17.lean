/-
  The walk of VerOrder.
-/
import Derived.Test.YtiicikieemfcmaaGreatDoorU18
import Derived.Test.YtiicikieemfcmaaGreatDoorM15
namespace Go.Proofs.YtiicikieemfcmaaGreatDoor.verOrder
set_option linter.unusedSimpArgs false
set_option linter.unusedVariables false
open Go.RowKit Go.Vr Go.Sort Go.Tx Go.Lib
attribute [local go_sem] setCellDrewN allocDrewN

theorem ok_mix {u v : V} (h : u.ok = true) (k : v.ok = true) : (V.mk u.a u.b u.c v.p).ok = true := by
  unfold V.ok verOk at *
  simp only [Bool.and_eq_true] at h k ⊢
  exact ⟨h.1, k.2⟩
/-- The first three cells stored. -/
def put3 (w : World) (N : Nat) (a b c : Int) : World := ((w.setCell ⟨N, 0, none⟩ (.int .i64 a)).setCell ⟨N, 1, none⟩ (.int .i64 b)).setCell ⟨N, 2, none⟩ (.int .i64 c)
theorem put3_at {w : World} {N : Nat} {a b c : Int} {p : ByteArray} (h : VarAt w N ⟨a, b, c, p⟩) (x y z : Int) : VarAt (put3 w N x y z) N ⟨x, y, z, p⟩ := by
  obtain ⟨lt, c0, c1, c2, c3, f0, f1, f2, f3⟩ := h
  unfold put3
  exact ⟨by simpa [World.setCell] using lt, by simp [go_sem, c0, c1, c2, c3], by simp [go_sem, c0, c1, c2, c3], by simp [go_sem, c0, c1, c2, c3], by simp [go_sem, c0, c1, c2, c3], by simp [go_sem, f0], by simp [go_sem, f1], by simp [go_sem, f2], by simp [go_sem, f3]⟩
theorem put3_far {w : World} {N M : Nat} {u : V} (h : VarAt w M u) (x y z : Int) (hne : N ≠ M) : VarAt (put3 w N x y z) M u := ((h.far3 _ hne).far3 _ hne).far3 _ hne
theorem put3_below {B : Nat} {w w' : World} {N : Nat} (h : Below B w w') (hB : B ≤ N) (x y z : Int) : Below B w (put3 w' N x y z) := ((h.setCell hB _).setCell hB _).setCell hB _

set_option maxHeartbeats 8000000 in
set_option maxRecDepth 100000 in
theorem walk (a0 a1 a2 a3 a4 a5 : Int) (w : World) (he : Env w) (h0 : -9223372036854775808 ≤ a0 ∧ a0 ≤ 9223372036854775807) (h1 : -9223372036854775808 ≤ a1 ∧ a1 ≤ 9223372036854775807) (h2 : -9223372036854775808 ≤ a2 ∧ a2 ≤ 9223372036854775807) (h3 : -9223372036854775808 ≤ a3 ∧ a3 ≤ 9223372036854775807) (h4 : -9223372036854775808 ≤ a4 ∧ a4 ≤ 9223372036854775807) (h5 : -9223372036854775808 ≤ a5 ∧ a5 ≤ 9223372036854775807) :
    Calls Tryz.prog 6 #[.int .i64 a0, .int .i64 a1, .int .i64 a2, .int .i64 a3, .int .i64 a4, .int .i64 a5] w fun e w' => e = .returned (.bool true) ∧ Below w.heap.size w w' := by
  have HE := hide he
  clear he
  go_enter Tryz.func6, Tryz.ntmps6
  go_wp2_with fail
  refine (known_any w HE.out).mono ?_
  rintro e w1 ⟨rfl, b1⟩
  go_wp2_with fail
  refine (make_any a0 a1 _ h0 h1).mono ?_
  rintro e w2 ⟨x, rfl, hx, b2⟩
  have hB2 := step b1 b2
  obtain ⟨xa, xb, xc, xp⟩ := x
  go_wp2_with fail
  refine (make_any a2 a3 _ h2 h3).mono ?_
  rintro e w3 ⟨y, rfl, hy, b3⟩
  have hB3 := step hB2 b3
  obtain ⟨ya, yb, yc, yp⟩ := y
  go_wp2_with fail
  refine (make_any a4 a5 _ h4 h5).mono ?_
  rintro e w4 ⟨z, rfl, hz, b4⟩
  have hB4 := step hB3 b4
  obtain ⟨za, zb, zc, zp⟩ := z
  have HX := hide hx
  have HY := hide hy
  have HZ := hide hz
  have hNw := hB4.size
  clear b1 b2 b3 b4 hB2 hB3 hx hy hz h0 h1 h2 h3 h5
  have A1 : Below w4.heap.size w4 (w4.alloc (.cells #[.int .i64 xa, .int .i64 xb, .int .i64 xc, .string xp] 24)) := (Below.refl _ _).alloc (Nat.le_refl _) _
  have U1 := VarAt.new w4 ⟨xa, xb, xc, xp⟩
  have zz1 : (w4.alloc (.cells #[.int .i64 xa, .int .i64 xb, .int .i64 xc, .string xp] 24)).heap.size = w4.heap.size + 1 := by simp
  have U2 := VarAt.new (w4.alloc (.cells #[.int .i64 xa, .int .i64 xb, .int .i64 xc, .string xp] 24)) ⟨ya, yb, yc, yp⟩
  have A2 : Below (w4.alloc (.cells #[.int .i64 xa, .int .i64 xb, .int .i64 xc, .string xp] 24)).heap.size (w4.alloc (.cells #[.int .i64 xa, .int .i64 xb, .int .i64 xc, .string xp] 24)) ((w4.alloc (.cells #[.int .i64 xa, .int .i64 xb, .int .i64 xc, .string xp] 24)).alloc (.cells #[.int .i64 ya, .int .i64 yb, .int .i64 yc, .string yp] 24)) := (Below.refl _ _).alloc (Nat.le_refl _) _
  have U12 := U1.later A2
  rw [zz1] at U2
  have zz2 : ((w4.alloc (.cells #[.int .i64 xa, .int .i64 xb, .int .i64 xc, .string xp] 24)).alloc (.cells #[.int .i64 ya, .int .i64 yb, .int .i64 yc, .string yp] 24)).heap.size = w4.heap.size + 1 + 1 := by simp
  have hB5 := hB4.trans (A1.mono hNw)
  have hB6 := hB5.trans (A2.mono hB5.size)
  clear A1 A2 U1 hB5
  go_wp2_with fail
  generalize (w4.alloc (.cells #[.int .i64 xa, .int .i64 xb, .int .i64 xc, .string xp] 24)).alloc (.cells #[.int .i64 ya, .int .i64 yb, .int .i64 yc, .string yp] 24) = w6 at *
  have A3 : Below w6.heap.size w6 (w6.alloc (.cells #[.int .i64 za, .int .i64 zb, .int .i64 zc, .string zp] 24)) := (Below.refl _ _).alloc (Nat.le_refl _) _
  have V1 := hide (U12.later A3)
  have V2 := hide (U2.later A3)
  have V3 := VarAt.new w6 ⟨za, zb, zc, zp⟩
  rw [zz2] at V3
  have HV3 := hide V3
  have hB7 := hB6.trans (A3.mono hB6.size)
  have HB7 := hide hB7
  generalize w6.alloc (.cells #[.int .i64 za, .int .i64 zb, .int .i64 zc, .string zp] 24) = w7 at *
  clear A3 U12 U2 V3 hB6 hB7 zz1 zz2 hB4
  generalize w4.heap.size = N at *
  refine (within_nat _ _ _ (by omega) (by omega) (by omega) (by omega)).mono ?_
  rintro e W ⟨i, rfl, hi, -, rfl⟩
  by_cases hi0 : i = 0
  · subst hi0
    obtain ⟨k1, c0, c1, c2, c3, f0, f1, f2, f3⟩ := V1.out
    obtain ⟨k2, d0, d1, d2, d3, g0, g1, g2, g3⟩ := V2.out
    go_wp2_with fail
    have Y1 := hide (put3_far (N := N + 1) V1.out xa xb xc (by omega)).drew
    have Y2 := hide (put3_at V2.out xa xb xc).drew
    have Y3 := hide (put3_far (N := N + 1) HV3.out xa xb xc (by omega)).drew
    have YB := hide (put3_below (N := N + 1) HB7.out (by omega) xa xb xc).drew
    go_cut [13] (fun q wc => q = .pointer (some ⟨N, 0, none⟩) ∧ VarAt wc N ⟨xa, xb, xc, xp⟩ ∧ VarAt wc (N + 1) ⟨xa, xb, xc, yp⟩ ∧ VarAt wc (N + 1 + 1) ⟨za, zb, zc, zp⟩ ∧ Below w.heap.size w wc)
    case first =>
      go_region
      go_wp2_with fail
      go_meet
      case rel => exact ⟨rfl, Y1.out, Y2.out, Y3.out, YB.out⟩
    case rest =>
    obtain ⟨rfl, y1, y2, y3, yB⟩ := hcut
    clear c0 c1 c2 c3 f0 f1 f2 f3 d0 d1 d2 d3 g0 g1 g2 g3 k1 k2 Y1 Y2 Y3 YB
    generalize wc = W2 at *
    have Y1 := hide y1
    have Y2 := hide y2
    have Y3 := hide y3
    have YB := hide yB
    clear y1 y2 y3 yB
    obtain ⟨k1, c0, c1, c2, c3, f0, f1, f2, f3⟩ := Y1.out
    obtain ⟨k2, d0, d1, d2, d3, g0, g1, g2, g3⟩ := Y3.out
    have X1 := hide (put3_far (N := N + 1 + 1) Y1.out xa xb xc (by omega)).drew
    have X2 := hide (put3_far (N := N + 1 + 1) Y2.out xa xb xc (by omega)).drew
    have X3 := hide (put3_at Y3.out xa xb xc).drew
    have XB := hide (put3_below (N := N + 1 + 1) YB.out (by omega) xa xb xc).drew
    go_wp2_with fail
    go_cut [13] (fun q wc => q = .pointer (some ⟨N, 0, none⟩) ∧ VarAt wc N ⟨xa, xb, xc, xp⟩ ∧ VarAt wc (N + 1) ⟨xa, xb, xc, yp⟩ ∧ VarAt wc (N + 1 + 1) ⟨xa, xb, xc, zp⟩ ∧ Below w.heap.size w wc)
    case first =>
      go_region
      go_wp2_with fail
      go_meet
      case rel => exact ⟨rfl, X1.out, X2.out, X3.out, XB.out⟩
    case rest =>
    obtain ⟨rfl, y1, y2, y3, yB⟩ := hcut
    clear c0 c1 c2 c3 f0 f1 f2 f3 d0 d1 d2 d3 g0 g1 g2 g3 k1 k2 X1 X2 X3 XB Y1 Y2 Y3 YB
    generalize wc = Wf at *
    have T1 := y1
    have PK : ∃ u v : V, u.ok = true ∧ v.ok = true ∧ VarAt Wf (N + 1) u ∧ VarAt Wf (N + 1 + 1) v := ⟨_, _, ok_mix HX.out HY.out, ok_mix HX.out HZ.out, y2, y3⟩
    have TB := hide yB
    clear y1 y2 y3 yB
    go_wp2_with fail
    clear V1 V2 HV3 HB7
    obtain ⟨⟨ua, ub, uc, up⟩, ⟨va, vb, vc, vp⟩, hu, hv, T2, T3⟩ := PK
    have HU := hide hu
    have HV := hide hv
    clear hu hv
    have F12 : Hid (∀ d os, Calls Tryz.prog 25 #[val ⟨xa, xb, xc, xp⟩, val ⟨ua, ub, uc, up⟩] (grow (redrawn Wf d) os) fun e w'' => e = .returned (.int .i64 (cmpV ⟨xa, xb, xc, xp⟩ ⟨ua, ub, uc, up⟩)) ∧ ∃ q : Regrown, w'' = grow (redrawn Wf q.d) q.os) := fun d os => Calls.regrown_of (cmp_any _ _ _ HX.out HU.out (HE.out.later (TB.out.trans ((below_regrown Wf d os).mono TB.out.size))))
    have F23 : Hid (∀ d os, Calls Tryz.prog 25 #[val ⟨ua, ub, uc, up⟩, val ⟨va, vb, vc, vp⟩] (grow (redrawn Wf d) os) fun e w'' => e = .returned (.int .i64 (cmpV ⟨ua, ub, uc, up⟩ ⟨va, vb, vc, vp⟩)) ∧ ∃ q : Regrown, w'' = grow (redrawn Wf q.d) q.os) := fun d os => Calls.regrown_of (cmp_any _ _ _ HU.out HV.out (HE.out.later (TB.out.trans ((below_regrown Wf d os).mono TB.out.size))))
    have F13 : Hid (∀ d os, Calls Tryz.prog 25 #[val ⟨xa, xb, xc, xp⟩, val ⟨va, vb, vc, vp⟩] (grow (redrawn Wf d) os) fun e w'' => e = .returned (.int .i64 (cmpV ⟨xa, xb, xc, xp⟩ ⟨va, vb, vc, vp⟩)) ∧ ∃ q : Regrown, w'' = grow (redrawn Wf q.d) q.os) := fun d os => Calls.regrown_of (cmp_any _ _ _ HX.out HV.out (HE.out.later (TB.out.trans ((below_regrown Wf d os).mono TB.out.size))))
    have R12 := hide (fun W => rcmp_any ⟨xa, xb, xc, xp⟩ ⟨ua, ub, uc, up⟩ W (by have : xp.size ≤ 40 := ok_size HX.out; show xp.size ≤ _; omega) (by have : up.size ≤ 40 := ok_size HU.out; show up.size ≤ _; omega))
    have R23 := hide (fun W => rcmp_any ⟨ua, ub, uc, up⟩ ⟨va, vb, vc, vp⟩ W (by have : up.size ≤ 40 := ok_size HU.out; show up.size ≤ _; omega) (by have : vp.size ≤ 40 := ok_size HV.out; show vp.size ≤ _; omega))
    have R13 := hide (fun W => rcmp_any ⟨xa, xb, xc, xp⟩ ⟨va, vb, vc, vp⟩ W (by have : xp.size ≤ 40 := ok_size HX.out; show xp.size ≤ _; omega) (by have : vp.size ≤ 40 := ok_size HV.out; show vp.size ≤ _; omega))
    have C21 := hide (fun W hW => cmp_any ⟨ua, ub, uc, up⟩ ⟨xa, xb, xc, xp⟩ W HU.out HX.out hW)
    rw [ord_ver.anti ⟨xa, xb, xc, xp⟩ ⟨ua, ub, uc, up⟩] at C21
    have bd := ord_ver.bd ⟨xa, xb, xc, xp⟩ ⟨ua, ub, uc, up⟩
    have EQ := hide (ord_ver.eq ⟨xa, xb, xc, xp⟩ ⟨ua, ub, uc, up⟩)
    have LE := hide (ord_ver.le ⟨xa, xb, xc, xp⟩ ⟨ua, ub, uc, up⟩ ⟨va, vb, vc, vp⟩)
    generalize cmpV ⟨xa, xb, xc, xp⟩ ⟨ua, ub, uc, up⟩ = p at *
    generalize cmpV ⟨ua, ub, uc, up⟩ ⟨va, vb, vc, vp⟩ = q at *
    generalize cmpV ⟨xa, xb, xc, xp⟩ ⟨va, vb, vc, vp⟩ = r at *
    have wp1 : IntKind.i64.wrap (0 - p) = -p := by rw [IntKind.wrap_i64]; omega
    have wp2 : IntKind.i64.wrap (-p) = -p := by rw [IntKind.wrap_i64]; omega
    have HT1 := hide T1
    have HT2 := hide T2
    have HT3 := hide T3
    clear T1 T2 T3
    obtain ⟨-, c0, c1, c2, c3, -, -, -, -⟩ := HT1.out
    obtain ⟨-, d0, d1, d2, d3, -, -, -, -⟩ := HT2.out
    obtain ⟨-, e0, e1, e2, e3, -, -, -, -⟩ := HT3.out
    have k0 := cell_regrown c0
    have k1 := cell_regrown c1
    have k2 := cell_regrown c2
    have k3 := cell_regrown c3
    have k4 := cell_regrown d0
    have k5 := cell_regrown d1
    have k6 := cell_regrown d2
    have k7 := cell_regrown d3
    have k8 := cell_regrown e0
    have k9 := cell_regrown e1
    have k10 := cell_regrown e2
    have k11 := cell_regrown e3
    refine wp_region_quiet_below mixed (by kernel_rfl) ?_
    iterate 2 (quiet_step (fail))
    quiet_step (exact F12.out _ _)
    iterate 2 (quiet_step (fail))
    quiet_step (exact F23.out _ _)
    iterate 2 (quiet_step (fail))
    quiet_step (exact F13.out _ _)
    iterate 3 (quiet_step (fail))
    refine wpQuiet_nil ?_
    intro w8 hw8
    have r8 := regrown_below hw8
    have hB8 := step TB.out r8
    have T18 := hide (HT1.out.later r8)
    have T28 := hide (HT2.out.later r8)
    have T38 := hide (HT3.out.later r8)
    clear hw8 r8 k0 k1 k2 k3 k4 k5 k6 k7 k8 k9 k10 k11 c0 c1 c2 c3 d0 d1 d2 d3 e0 e1 e2 e3 F12 F23 F13 HT1 HT2 HT3
    obtain ⟨-, c0, c1, c2, c3, -, -, -, -⟩ := T18.out
    obtain ⟨-, d0, d1, d2, d3, -, -, -, -⟩ := T28.out
    go_wp2_with fail
    refine (R12.out _).mono ?_
    rintro e w9 ⟨rfl, b9⟩
    have hB9 := step hB8 b9
    have T19 := hide (T18.out.later b9)
    have T29 := hide (T28.out.later b9)
    have T39 := hide (T38.out.later b9)
    clear c0 c1 c2 c3 d0 d1 d2 d3 T18 T28 T38 hB8 b9
    obtain ⟨-, c0, c1, c2, c3, -, -, -, -⟩ := T29.out
    obtain ⟨-, d0, d1, d2, d3, -, -, -, -⟩ := T39.out
    go_wp2_with fail
    refine (R23.out _).mono ?_
    rintro e w10 ⟨rfl, b10⟩
    have hB10 := step hB9 b10
    have T1a := hide (T19.out.later b10)
    have T2a := hide (T29.out.later b10)
    have T3a := hide (T39.out.later b10)
    clear c0 c1 c2 c3 d0 d1 d2 d3 T19 T29 T39 hB9 b10
    obtain ⟨-, c0, c1, c2, c3, -, -, -, -⟩ := T1a.out
    obtain ⟨-, d0, d1, d2, d3, -, -, -, -⟩ := T3a.out
    go_wp2_with fail
    refine (R13.out _).mono ?_
    rintro e w11 ⟨rfl, b11⟩
    have hB11 := step hB10 b11
    have T1b := hide (T1a.out.later b11)
    have T2b := hide (T2a.out.later b11)
    clear c0 c1 c2 c3 d0 d1 d2 d3 T1a T2a T3a hB10 b11
    obtain ⟨-, c0, c1, c2, c3, -, -, -, -⟩ := T2b.out
    obtain ⟨-, d0, d1, d2, d3, -, -, -, -⟩ := T1b.out
    go_wp2_with fail
    refine (C21.out _ (HE.out.later hB11)).mono ?_
    rintro e w12 ⟨rfl, b12⟩
    have hB12 := step hB11 b12
    have T1c := hide (T1b.out.later b12)
    have T2c := hide (T2b.out.later b12)
    clear c0 c1 c2 c3 d0 d1 d2 d3 T1b T2b hB11 b12
    obtain ⟨-, c0, c1, c2, c3, -, -, -, -⟩ := T1c.out
    obtain ⟨-, d0, d1, d2, d3, -, -, -, -⟩ := T2c.out
    clear T1c T2c
    have FIN : Hid ((decide (p ≤ 0) = false ∨ decide (q ≤ 0) = false) ∨ (decide (p ≤ 0) = true ∧ decide (q ≤ 0) = true ∧ decide (r ≤ 0) = true)) := by
      show _ ∨ _
      by_cases h1 : p ≤ 0
      · by_cases h2 : q ≤ 0
        · exact .inr ⟨by simpa using h1, by simpa using h2, by simpa using LE.out h1 h2⟩
        · exact .inl (.inr (by simpa using h2))
      · exact .inl (.inl (by simpa using h1))
    by_cases hxy : V.mk xa xb xc xp = V.mk ua ub uc up
    · obtain ⟨rfl, rfl, rfl, rfl⟩ : xa = ua ∧ xb = ub ∧ xc = uc ∧ xp = up := by injection hxy with h1 h2 h3 h4; exact ⟨h1, h2, h3, h4⟩
      obtain rfl : p = 0 := EQ.out.2 rfl
      clear EQ LE hxy
      rcases FIN.out with h | ⟨h1, h2, h3⟩
      · have hq : decide (q ≤ 0) = false := by simpa using h
        go_wp2_with fail
        go_ret
        exact ⟨by first | rfl | simp, hB12⟩
      · go_wp2_with fail
        go_ret
        exact ⟨by first | rfl | simp, hB12⟩
    · have p0 : (p == 0) = false := by simp; exact fun e => hxy (EQ.out.1 e)
      have pn : ¬ p = 0 := fun e => hxy (EQ.out.1 e)
      have PN := hide pn
      clear pn EQ LE
      have four : Hid ((xa == ua) = false ∨ ((xa == ua) = true ∧ (xb == ub) = false) ∨ ((xa == ua) = true ∧ (xb == ub) = true ∧ (xc == uc) = false) ∨ ((xa == ua) = true ∧ (xb == ub) = true ∧ (xc == uc) = true ∧ (xp.toList == up.toList) = false)) := by
        show _ ∨ _
        by_cases e1 : xa = ua
        · by_cases e2 : xb = ub
          · by_cases e3 : xc = uc
            · refine .inr (.inr (.inr ⟨by simp [e1], by simp [e2], by simp [e3], ?_⟩))
              cases h : (xp.toList == up.toList) with
              | false => rfl
              | true =>
                refine absurd ?_ hxy
                have e4 : xp = up := by
                  have := eq_of_beq h
                  refine ba_ext ?_
                  rw [← toList_data, ← toList_data, this]
                rw [e1, e2, e3, e4]
            · exact .inr (.inr (.inl ⟨by simp [e1], by simp [e2], by simpa using e3⟩))
          · exact .inr (.inl ⟨by simp [e1], by simpa using e2⟩)
        · exact .inl (by simpa using e1)
      clear hxy
      rcases FIN.out with h | ⟨h1, h2, h3⟩
      · rcases four.out with f | ⟨f, g⟩ | ⟨f, g, k⟩ | ⟨f, g, k, m⟩
        all_goals
          rcases h with h | h
          · go_wp2_with fail
            go_ret
            exact ⟨by first | rfl | simp, hB12⟩
          · by_cases hp : p ≤ 0
            · have dp : decide (p ≤ 0) = true := by simpa using hp
              go_wp2_with fail
              go_ret
              exact ⟨by first | rfl | simp, hB12⟩
            · have dp : decide (p ≤ 0) = false := by simpa using hp
              go_wp2_with fail
              go_ret
              exact ⟨by first | rfl | simp, hB12⟩
      · rcases four.out with f | ⟨f, g⟩ | ⟨f, g, k⟩ | ⟨f, g, k, m⟩
        all_goals
          go_wp2_with fail
          go_ret
          exact ⟨by first | rfl | simp, hB12⟩
  · have di : ((i : Int) == 0) = false := by simp; omega
    have T1 := V1.out
    have PK : ∃ u v : V, u.ok = true ∧ v.ok = true ∧ VarAt W (N + 1) u ∧ VarAt W (N + 1 + 1) v := ⟨_, _, HY.out, HZ.out, V2.out, HV3.out⟩
    have TB := HB7
    go_wp2_with fail
    generalize W = Wf at *
    clear V1 V2 HV3 HB7
    obtain ⟨⟨ua, ub, uc, up⟩, ⟨va, vb, vc, vp⟩, hu, hv, T2, T3⟩ := PK
    have HU := hide hu
    have HV := hide hv
    clear hu hv
    have F12 : Hid (∀ d os, Calls Tryz.prog 25 #[val ⟨xa, xb, xc, xp⟩, val ⟨ua, ub, uc, up⟩] (grow (redrawn Wf d) os) fun e w'' => e = .returned (.int .i64 (cmpV ⟨xa, xb, xc, xp⟩ ⟨ua, ub, uc, up⟩)) ∧ ∃ q : Regrown, w'' = grow (redrawn Wf q.d) q.os) := fun d os => Calls.regrown_of (cmp_any _ _ _ HX.out HU.out (HE.out.later (TB.out.trans ((below_regrown Wf d os).mono TB.out.size))))
    have F23 : Hid (∀ d os, Calls Tryz.prog 25 #[val ⟨ua, ub, uc, up⟩, val ⟨va, vb, vc, vp⟩] (grow (redrawn Wf d) os) fun e w'' => e = .returned (.int .i64 (cmpV ⟨ua, ub, uc, up⟩ ⟨va, vb, vc, vp⟩)) ∧ ∃ q : Regrown, w'' = grow (redrawn Wf q.d) q.os) := fun d os => Calls.regrown_of (cmp_any _ _ _ HU.out HV.out (HE.out.later (TB.out.trans ((below_regrown Wf d os).mono TB.out.size))))
    have F13 : Hid (∀ d os, Calls Tryz.prog 25 #[val ⟨xa, xb, xc, xp⟩, val ⟨va, vb, vc, vp⟩] (grow (redrawn Wf d) os) fun e w'' => e = .returned (.int .i64 (cmpV ⟨xa, xb, xc, xp⟩ ⟨va, vb, vc, vp⟩)) ∧ ∃ q : Regrown, w'' = grow (redrawn Wf q.d) q.os) := fun d os => Calls.regrown_of (cmp_any _ _ _ HX.out HV.out (HE.out.later (TB.out.trans ((below_regrown Wf d os).mono TB.out.size))))
    have R12 := hide (fun W => rcmp_any ⟨xa, xb, xc, xp⟩ ⟨ua, ub, uc, up⟩ W (by have : xp.size ≤ 40 := ok_size HX.out; show xp.size ≤ _; omega) (by have : up.size ≤ 40 := ok_size HU.out; show up.size ≤ _; omega))
    have R23 := hide (fun W => rcmp_any ⟨ua, ub, uc, up⟩ ⟨va, vb, vc, vp⟩ W (by have : up.size ≤ 40 := ok_size HU.out; show up.size ≤ _; omega) (by have : vp.size ≤ 40 := ok_size HV.out; show vp.size ≤ _; omega))
    have R13 := hide (fun W => rcmp_any ⟨xa, xb, xc, xp⟩ ⟨va, vb, vc, vp⟩ W (by have : xp.size ≤ 40 := ok_size HX.out; show xp.size ≤ _; omega) (by have : vp.size ≤ 40 := ok_size HV.out; show vp.size ≤ _; omega))
    have C21 := hide (fun W hW => cmp_any ⟨ua, ub, uc, up⟩ ⟨xa, xb, xc, xp⟩ W HU.out HX.out hW)
    rw [ord_ver.anti ⟨xa, xb, xc, xp⟩ ⟨ua, ub, uc, up⟩] at C21
    have bd := ord_ver.bd ⟨xa, xb, xc, xp⟩ ⟨ua, ub, uc, up⟩
    have EQ := hide (ord_ver.eq ⟨xa, xb, xc, xp⟩ ⟨ua, ub, uc, up⟩)
    have LE := hide (ord_ver.le ⟨xa, xb, xc, xp⟩ ⟨ua, ub, uc, up⟩ ⟨va, vb, vc, vp⟩)
    generalize cmpV ⟨xa, xb, xc, xp⟩ ⟨ua, ub, uc, up⟩ = p at *
    generalize cmpV ⟨ua, ub, uc, up⟩ ⟨va, vb, vc, vp⟩ = q at *
    generalize cmpV ⟨xa, xb, xc, xp⟩ ⟨va, vb, vc, vp⟩ = r at *
    have wp1 : IntKind.i64.wrap (0 - p) = -p := by rw [IntKind.wrap_i64]; omega
    have wp2 : IntKind.i64.wrap (-p) = -p := by rw [IntKind.wrap_i64]; omega
    have HT1 := hide T1
    have HT2 := hide T2
    have HT3 := hide T3
    clear T1 T2 T3
    obtain ⟨-, c0, c1, c2, c3, -, -, -, -⟩ := HT1.out
    obtain ⟨-, d0, d1, d2, d3, -, -, -, -⟩ := HT2.out
    obtain ⟨-, e0, e1, e2, e3, -, -, -, -⟩ := HT3.out
    have k0 := cell_regrown c0
    have k1 := cell_regrown c1
    have k2 := cell_regrown c2
    have k3 := cell_regrown c3
    have k4 := cell_regrown d0
    have k5 := cell_regrown d1
    have k6 := cell_regrown d2
    have k7 := cell_regrown d3
    have k8 := cell_regrown e0
    have k9 := cell_regrown e1
    have k10 := cell_regrown e2
    have k11 := cell_regrown e3
    refine wp_region_quiet_below mixed (by kernel_rfl) ?_
    iterate 2 (quiet_step (fail))
    quiet_step (exact F12.out _ _)
    iterate 2 (quiet_step (fail))
    quiet_step (exact F23.out _ _)
    iterate 2 (quiet_step (fail))
    quiet_step (exact F13.out _ _)
    iterate 3 (quiet_step (fail))
    refine wpQuiet_nil ?_
    intro w8 hw8
    have r8 := regrown_below hw8
    have hB8 := step TB.out r8
    have T18 := hide (HT1.out.later r8)
    have T28 := hide (HT2.out.later r8)
    have T38 := hide (HT3.out.later r8)
    clear hw8 r8 k0 k1 k2 k3 k4 k5 k6 k7 k8 k9 k10 k11 c0 c1 c2 c3 d0 d1 d2 d3 e0 e1 e2 e3 F12 F23 F13 HT1 HT2 HT3
    obtain ⟨-, c0, c1, c2, c3, -, -, -, -⟩ := T18.out
    obtain ⟨-, d0, d1, d2, d3, -, -, -, -⟩ := T28.out
    go_wp2_with fail
    refine (R12.out _).mono ?_
    rintro e w9 ⟨rfl, b9⟩
    have hB9 := step hB8 b9
    have T19 := hide (T18.out.later b9)
    have T29 := hide (T28.out.later b9)
    have T39 := hide (T38.out.later b9)
    clear c0 c1 c2 c3 d0 d1 d2 d3 T18 T28 T38 hB8 b9
    obtain ⟨-, c0, c1, c2, c3, -, -, -, -⟩ := T29.out
    obtain ⟨-, d0, d1, d2, d3, -, -, -, -⟩ := T39.out
    go_wp2_with fail
    refine (R23.out _).mono ?_
    rintro e w10 ⟨rfl, b10⟩
    have hB10 := step hB9 b10
    have T1a := hide (T19.out.later b10)
    have T2a := hide (T29.out.later b10)
    have T3a := hide (T39.out.later b10)
    clear c0 c1 c2 c3 d0 d1 d2 d3 T19 T29 T39 hB9 b10
    obtain ⟨-, c0, c1, c2, c3, -, -, -, -⟩ := T1a.out
    obtain ⟨-, d0, d1, d2, d3, -, -, -, -⟩ := T3a.out
    go_wp2_with fail
    refine (R13.out _).mono ?_
    rintro e w11 ⟨rfl, b11⟩
    have hB11 := step hB10 b11
    have T1b := hide (T1a.out.later b11)
    have T2b := hide (T2a.out.later b11)
    clear c0 c1 c2 c3 d0 d1 d2 d3 T1a T2a T3a hB10 b11
    obtain ⟨-, c0, c1, c2, c3, -, -, -, -⟩ := T2b.out
    obtain ⟨-, d0, d1, d2, d3, -, -, -, -⟩ := T1b.out
    go_wp2_with fail
    refine (C21.out _ (HE.out.later hB11)).mono ?_
    rintro e w12 ⟨rfl, b12⟩
    have hB12 := step hB11 b12
    have T1c := hide (T1b.out.later b12)
    have T2c := hide (T2b.out.later b12)
    clear c0 c1 c2 c3 d0 d1 d2 d3 T1b T2b hB11 b12
    obtain ⟨-, c0, c1, c2, c3, -, -, -, -⟩ := T1c.out
    obtain ⟨-, d0, d1, d2, d3, -, -, -, -⟩ := T2c.out
    clear T1c T2c
    have FIN : Hid ((decide (p ≤ 0) = false ∨ decide (q ≤ 0) = false) ∨ (decide (p ≤ 0) = true ∧ decide (q ≤ 0) = true ∧ decide (r ≤ 0) = true)) := by
      show _ ∨ _
      by_cases h1 : p ≤ 0
      · by_cases h2 : q ≤ 0
        · exact .inr ⟨by simpa using h1, by simpa using h2, by simpa using LE.out h1 h2⟩
        · exact .inl (.inr (by simpa using h2))
      · exact .inl (.inl (by simpa using h1))
    by_cases hxy : V.mk xa xb xc xp = V.mk ua ub uc up
    · obtain ⟨rfl, rfl, rfl, rfl⟩ : xa = ua ∧ xb = ub ∧ xc = uc ∧ xp = up := by injection hxy with h1 h2 h3 h4; exact ⟨h1, h2, h3, h4⟩
      obtain rfl : p = 0 := EQ.out.2 rfl
      clear EQ LE hxy
      rcases FIN.out with h | ⟨h1, h2, h3⟩
      · have hq : decide (q ≤ 0) = false := by simpa using h
        go_wp2_with fail
        go_ret
        exact ⟨by first | rfl | simp, hB12⟩
      · go_wp2_with fail
        go_ret
        exact ⟨by first | rfl | simp, hB12⟩
    · have p0 : (p == 0) = false := by simp; exact fun e => hxy (EQ.out.1 e)
      have pn : ¬ p = 0 := fun e => hxy (EQ.out.1 e)
      have PN := hide pn
      clear pn EQ LE
      have four : Hid ((xa == ua) = false ∨ ((xa == ua) = true ∧ (xb == ub) = false) ∨ ((xa == ua) = true ∧ (xb == ub) = true ∧ (xc == uc) = false) ∨ ((xa == ua) = true ∧ (xb == ub) = true ∧ (xc == uc) = true ∧ (xp.toList == up.toList) = false)) := by
        show _ ∨ _
        by_cases e1 : xa = ua
        · by_cases e2 : xb = ub
          · by_cases e3 : xc = uc
            · refine .inr (.inr (.inr ⟨by simp [e1], by simp [e2], by simp [e3], ?_⟩))
              cases h : (xp.toList == up.toList) with
              | false => rfl
              | true =>
                refine absurd ?_ hxy
                have e4 : xp = up := by
                  have := eq_of_beq h
                  refine ba_ext ?_
                  rw [← toList_data, ← toList_data, this]
                rw [e1, e2, e3, e4]
            · exact .inr (.inr (.inl ⟨by simp [e1], by simp [e2], by simpa using e3⟩))
          · exact .inr (.inl ⟨by simp [e1], by simpa using e2⟩)
        · exact .inl (by simpa using e1)
      clear hxy
      rcases FIN.out with h | ⟨h1, h2, h3⟩
      · rcases four.out with f | ⟨f, g⟩ | ⟨f, g, k⟩ | ⟨f, g, k, m⟩
        all_goals
          rcases h with h | h
          · go_wp2_with fail
            go_ret
            exact ⟨by first | rfl | simp, hB12⟩
          · by_cases hp : p ≤ 0
            · have dp : decide (p ≤ 0) = true := by simpa using hp
              go_wp2_with fail
              go_ret
              exact ⟨by first | rfl | simp, hB12⟩
            · have dp : decide (p ≤ 0) = false := by simpa using hp
              go_wp2_with fail
              go_ret
              exact ⟨by first | rfl | simp, hB12⟩
      · rcases four.out with f | ⟨f, g⟩ | ⟨f, g, k⟩ | ⟨f, g, k, m⟩
        all_goals
          go_wp2_with fail
          go_ret
          exact ⟨by first | rfl | simp, hB12⟩

end Go.Proofs.YtiicikieemfcmaaGreatDoor.verOrder
