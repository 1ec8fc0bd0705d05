/-
  The walk of SpanLaws.
-/
import Derived.Test.YtohnlhfgajipgaaGreatDoorG31

namespace Go.Proofs.YtohnlhfgajipgaaGreatDoor.spanLaws
set_option linter.unusedSimpArgs false
set_option linter.unusedVariables false
open Go.RowKit Go.Vr Go.Sort Go.Tx Go.Lib
attribute [local go_sem] setCellDrewN allocDrewN

set_option maxHeartbeats 16000000 in
set_option maxRecDepth 100000 in
theorem walk (a0 : Option Addr) (len0 cap0 : Nat) (z0 : List Int) (a1 : Option Addr) (len1 cap1 : Nat) (z1 : List Int) (a2 : Option Addr) (len2 cap2 : Nat) (z2 : List Int) (w : World) (he : Env w) (w0 : IsRow .i64 w a0 len0 cap0 z0) (w1 : IsRow .i64 w a1 len1 cap1 z1) (w2 : IsRow .i64 w a2 len2 cap2 z2) :
    Calls Tryz.prog 4 #[.slice a0 len0 cap0, .slice a1 len1 cap1, .slice a2 len2 cap2] w fun e w' => e = .returned (.bool true) ∧ RowKit.Below w.heap.size w w' := by
  have HE := hide he
  have R0 := hide w0.row
  have R1 := hide w1.row
  have R2 := hide w2.row
  clear he w0 w1 w2
  go_enter Tryz.func4, Tryz.ntmps4
  go_wp2_with fail
  refine (known3_any w HE.out).mono ?_
  rintro e W0 ⟨rfl, b⟩
  have B := hide b
  clear b
  go_wp2_with fail
  refine (mk_sl _ _ _ _ _ (R0.out.later B.out)).mono ?_
  rintro e W1 ⟨ada, na, ca, la, rfl, r, b⟩
  replace B := hide (step B.out b)
  have Sa := hide r
  clear b r
  go_wp2_with fail
  refine (mk_sl _ _ _ _ _ (R1.out.later B.out)).mono ?_
  rintro e W2 ⟨adb, nb, cb, lb, rfl, r, b⟩
  replace Sa := hide (Sa.out.later b)
  replace B := hide (step B.out b)
  have Sb := hide r
  clear b r
  go_wp2_with fail
  refine (mk_sl _ _ _ _ _ (R2.out.later B.out)).mono ?_
  rintro e W3 ⟨adc, nc, cc, lc, rfl, r, b⟩
  replace Sa := hide (Sa.out.later b)
  replace Sb := hide (Sb.out.later b)
  replace B := hide (step B.out b)
  have Sc := hide r
  clear b r
  have Ha := hide Sa.out.row
  have Hb := hide Sb.out.row
  have Hc := hide Sc.out.row
  go_wp2_with fail
  refine (not_sl _ (HE.out.later B.out) _ _ _ _ _ Sa.out (by omega)).mono ?_
  rintro e W4 ⟨add, nd, cd, rfl, r, b⟩
  replace Sa := hide (Sa.out.later b)
  replace Sb := hide (Sb.out.later b)
  replace Sc := hide (Sc.out.later b)
  replace B := hide (step B.out b)
  have Sd := hide r
  clear b r
  go_wp2_with fail
  refine (not_sl _ (HE.out.later B.out) _ _ _ _ _ Sd.out (by omega)).mono ?_
  rintro e W5 ⟨ade, ne, ce, rfl, r, b⟩
  replace Sa := hide (Sa.out.later b)
  replace Sb := hide (Sb.out.later b)
  replace Sc := hide (Sc.out.later b)
  replace Sd := hide (Sd.out.later b)
  replace B := hide (step B.out b)
  have Se := hide r
  clear b r
  go_wp2_with fail
  refine (same_sl _ _ _ _ _ _ _ _ _ _ _ Se.out Sa.out (by omega) (Sp.not_not_row Ha.out)).mono ?_
  rintro e W6 ⟨rfl, b⟩
  replace Sa := hide (Sa.out.later b)
  replace Sb := hide (Sb.out.later b)
  replace Sc := hide (Sc.out.later b)
  replace Sd := hide (Sd.out.later b)
  replace Se := hide (Se.out.later b)
  replace B := hide (step B.out b)
  clear b
  clear Sd Se
  go_wp2_with fail
  refine (or2_sl _ (HE.out.later B.out) _ _ _ _ _ _ _ _ _ _ Sa.out Sb.out (by omega) (by omega)).mono ?_
  rintro e W7 ⟨add, nd, cd, rfl, r, b⟩
  replace Sa := hide (Sa.out.later b)
  replace Sb := hide (Sb.out.later b)
  replace Sc := hide (Sc.out.later b)
  replace B := hide (step B.out b)
  have Sd := hide r
  clear b r
  go_wp2_with fail
  refine (not_sl _ (HE.out.later B.out) _ _ _ _ _ Sd.out (by omega)).mono ?_
  rintro e W8 ⟨adf, nf, cf, rfl, r, b⟩
  replace Sa := hide (Sa.out.later b)
  replace Sb := hide (Sb.out.later b)
  replace Sc := hide (Sc.out.later b)
  replace Sd := hide (Sd.out.later b)
  replace B := hide (step B.out b)
  have Sf := hide r
  clear b r
  go_wp2_with fail
  refine (not_sl _ (HE.out.later B.out) _ _ _ _ _ Sa.out (by omega)).mono ?_
  rintro e W9 ⟨adg, ng, cg, rfl, r, b⟩
  replace Sa := hide (Sa.out.later b)
  replace Sb := hide (Sb.out.later b)
  replace Sc := hide (Sc.out.later b)
  replace Sd := hide (Sd.out.later b)
  replace Sf := hide (Sf.out.later b)
  replace B := hide (step B.out b)
  have Sg := hide r
  clear b r
  go_wp2_with fail
  refine (not_sl _ (HE.out.later B.out) _ _ _ _ _ Sb.out (by omega)).mono ?_
  rintro e W10 ⟨adh, nh, ch, rfl, r, b⟩
  replace Sa := hide (Sa.out.later b)
  replace Sb := hide (Sb.out.later b)
  replace Sc := hide (Sc.out.later b)
  replace Sd := hide (Sd.out.later b)
  replace Sf := hide (Sf.out.later b)
  replace Sg := hide (Sg.out.later b)
  replace B := hide (step B.out b)
  have Sh := hide r
  clear b r
  go_wp2_with fail
  refine (and_sl _ (HE.out.later B.out) _ _ _ _ _ _ _ _ _ _ Sg.out Sh.out (by omega) (by omega)).mono ?_
  rintro e W11 ⟨adi, ni, ci, rfl, r, b⟩
  replace Sa := hide (Sa.out.later b)
  replace Sb := hide (Sb.out.later b)
  replace Sc := hide (Sc.out.later b)
  replace Sd := hide (Sd.out.later b)
  replace Sf := hide (Sf.out.later b)
  replace Sg := hide (Sg.out.later b)
  replace Sh := hide (Sh.out.later b)
  replace B := hide (step B.out b)
  have Si := hide r
  clear b r
  go_wp2_with fail
  refine (same_sl _ _ _ _ _ _ _ _ _ _ _ Sf.out Si.out (by omega) (Sp.not_or_row Ha.out Hb.out)).mono ?_
  rintro e W12 ⟨rfl, b⟩
  replace Sa := hide (Sa.out.later b)
  replace Sb := hide (Sb.out.later b)
  replace Sc := hide (Sc.out.later b)
  replace Sd := hide (Sd.out.later b)
  replace Sf := hide (Sf.out.later b)
  replace Sg := hide (Sg.out.later b)
  replace Sh := hide (Sh.out.later b)
  replace Si := hide (Si.out.later b)
  replace B := hide (step B.out b)
  clear b
  clear Sd Sf Sg Sh Si
  go_wp2_with fail
  refine (or2_sl _ (HE.out.later B.out) _ _ _ _ _ _ _ _ _ _ Sb.out Sc.out (by omega) (by omega)).mono ?_
  rintro e W13 ⟨add, nd, cd, rfl, r, b⟩
  replace Sa := hide (Sa.out.later b)
  replace Sb := hide (Sb.out.later b)
  replace Sc := hide (Sc.out.later b)
  replace B := hide (step B.out b)
  have Sd := hide r
  clear b r
  go_wp2_with fail
  refine (and_sl _ (HE.out.later B.out) _ _ _ _ _ _ _ _ _ _ Sa.out Sd.out (by omega) (by omega)).mono ?_
  rintro e W14 ⟨adf, nf, cf, rfl, r, b⟩
  replace Sa := hide (Sa.out.later b)
  replace Sb := hide (Sb.out.later b)
  replace Sc := hide (Sc.out.later b)
  replace Sd := hide (Sd.out.later b)
  replace B := hide (step B.out b)
  have Sf := hide r
  clear b r
  go_wp2_with fail
  refine (and_sl _ (HE.out.later B.out) _ _ _ _ _ _ _ _ _ _ Sa.out Sb.out (by omega) (by omega)).mono ?_
  rintro e W15 ⟨adg, ng, cg, rfl, r, b⟩
  replace Sa := hide (Sa.out.later b)
  replace Sb := hide (Sb.out.later b)
  replace Sc := hide (Sc.out.later b)
  replace Sd := hide (Sd.out.later b)
  replace Sf := hide (Sf.out.later b)
  replace B := hide (step B.out b)
  have Sg := hide r
  clear b r
  go_wp2_with fail
  refine (and_sl _ (HE.out.later B.out) _ _ _ _ _ _ _ _ _ _ Sa.out Sc.out (by omega) (by omega)).mono ?_
  rintro e W16 ⟨adh, nh, ch, rfl, r, b⟩
  replace Sa := hide (Sa.out.later b)
  replace Sb := hide (Sb.out.later b)
  replace Sc := hide (Sc.out.later b)
  replace Sd := hide (Sd.out.later b)
  replace Sf := hide (Sf.out.later b)
  replace Sg := hide (Sg.out.later b)
  replace B := hide (step B.out b)
  have Sh := hide r
  clear b r
  go_wp2_with fail
  refine (or2_sl _ (HE.out.later B.out) _ _ _ _ _ _ _ _ _ _ Sg.out Sh.out (by omega) (by omega)).mono ?_
  rintro e W17 ⟨adi, ni, ci, rfl, r, b⟩
  replace Sa := hide (Sa.out.later b)
  replace Sb := hide (Sb.out.later b)
  replace Sc := hide (Sc.out.later b)
  replace Sd := hide (Sd.out.later b)
  replace Sf := hide (Sf.out.later b)
  replace Sg := hide (Sg.out.later b)
  replace Sh := hide (Sh.out.later b)
  replace B := hide (step B.out b)
  have Si := hide r
  clear b r
  go_wp2_with fail
  refine (same_sl _ _ _ _ _ _ _ _ _ _ _ Sf.out Si.out (by omega) (Sp.and_or_row Ha.out Hb.out Hc.out)).mono ?_
  rintro e W18 ⟨rfl, b⟩
  replace Sa := hide (Sa.out.later b)
  replace Sb := hide (Sb.out.later b)
  replace Sc := hide (Sc.out.later b)
  replace Sd := hide (Sd.out.later b)
  replace Sf := hide (Sf.out.later b)
  replace Sg := hide (Sg.out.later b)
  replace Sh := hide (Sh.out.later b)
  replace Si := hide (Si.out.later b)
  replace B := hide (step B.out b)
  clear b
  clear Sd Sf Sg Sh Si
  go_wp2_with fail
  refine (not_sl _ (HE.out.later B.out) _ _ _ _ _ Sa.out (by omega)).mono ?_
  rintro e W19 ⟨add, nd, cd, rfl, r, b⟩
  replace Sa := hide (Sa.out.later b)
  replace Sb := hide (Sb.out.later b)
  replace Sc := hide (Sc.out.later b)
  replace B := hide (step B.out b)
  have Sd := hide r
  clear b r
  go_wp2_with fail
  refine (or2_sl _ (HE.out.later B.out) _ _ _ _ _ _ _ _ _ _ Sa.out Sd.out (by omega) (by omega)).mono ?_
  rintro e W20 ⟨adf, nf, cf, rfl, r, b⟩
  replace Sa := hide (Sa.out.later b)
  replace Sb := hide (Sb.out.later b)
  replace Sc := hide (Sc.out.later b)
  replace Sd := hide (Sd.out.later b)
  replace B := hide (step B.out b)
  have Sf := hide r
  clear b r
  go_wp2_with fail
  refine (not_sl _ (HE.out.later B.out) _ _ _ _ _ (SR.nil _ 0) (by omega)).mono ?_
  rintro e W21 ⟨adg, ng, cg, rfl, r, b⟩
  replace Sa := hide (Sa.out.later b)
  replace Sb := hide (Sb.out.later b)
  replace Sc := hide (Sc.out.later b)
  replace Sd := hide (Sd.out.later b)
  replace Sf := hide (Sf.out.later b)
  replace B := hide (step B.out b)
  have Sg := hide r
  clear b r
  go_wp2_with fail
  refine (same_sl _ _ _ _ _ _ _ _ _ _ _ Sf.out Sg.out (by omega) (Sp.or_not_row Ha.out)).mono ?_
  rintro e W22 ⟨rfl, b⟩
  replace Sa := hide (Sa.out.later b)
  replace Sb := hide (Sb.out.later b)
  replace Sc := hide (Sc.out.later b)
  replace Sd := hide (Sd.out.later b)
  replace Sf := hide (Sf.out.later b)
  replace Sg := hide (Sg.out.later b)
  replace B := hide (step B.out b)
  clear b
  clear Sd Sf Sg
  go_wp2_with fail
  refine (not_sl _ (HE.out.later B.out) _ _ _ _ _ Sa.out (by omega)).mono ?_
  rintro e W23 ⟨add, nd, cd, rfl, r, b⟩
  replace Sa := hide (Sa.out.later b)
  replace Sb := hide (Sb.out.later b)
  replace Sc := hide (Sc.out.later b)
  replace B := hide (step B.out b)
  have Sd := hide r
  clear b r
  go_wp2_with fail
  refine (and_sl _ (HE.out.later B.out) _ _ _ _ _ _ _ _ _ _ Sa.out Sd.out (by omega) (by omega)).mono ?_
  rintro e W24 ⟨adf, nf, cf, rfl, r, b⟩
  replace Sa := hide (Sa.out.later b)
  replace Sb := hide (Sb.out.later b)
  replace Sc := hide (Sc.out.later b)
  replace Sd := hide (Sd.out.later b)
  replace B := hide (step B.out b)
  have Sf := hide r
  clear b r
  obtain rfl : nf = 0 := by have h := Sf.out; rw [Sp.and_not_row Ha.out] at h; exact h.zero
  clear Sd Sf
  go_wp2_with fail
  refine (or1_sl _ (HE.out.later B.out) _ _ _ _ _ Sa.out (by omega)).mono ?_
  rintro e W25 ⟨add, nd, cd, rfl, r, b⟩
  replace Sa := hide (Sa.out.later b)
  replace Sb := hide (Sb.out.later b)
  replace Sc := hide (Sc.out.later b)
  replace B := hide (step B.out b)
  have Sd := hide r
  clear b r
  go_wp2_with fail
  refine (same_sl _ _ _ _ _ _ _ _ _ _ _ Sd.out Sa.out (by omega) (rfl)).mono ?_
  rintro e W26 ⟨rfl, b⟩
  replace Sa := hide (Sa.out.later b)
  replace Sb := hide (Sb.out.later b)
  replace Sc := hide (Sc.out.later b)
  replace Sd := hide (Sd.out.later b)
  replace B := hide (step B.out b)
  clear b
  clear Sd
  go_wp2_with fail
  refine (or0_sl _ (HE.out.later B.out)).mono ?_
  rintro e W27 ⟨adz, cz, rfl, b⟩
  replace Sa := hide (Sa.out.later b)
  replace Sb := hide (Sb.out.later b)
  replace Sc := hide (Sc.out.later b)
  replace B := hide (step B.out b)
  clear b
  go_wp2_with fail
  refine (or2_sl _ (HE.out.later B.out) _ _ _ _ _ _ _ _ _ _ Sb.out Sa.out (by omega) (by omega)).mono ?_
  rintro e W28 ⟨add, nd, cd, rfl, r, b⟩
  replace Sa := hide (Sa.out.later b)
  replace Sb := hide (Sb.out.later b)
  replace Sc := hide (Sc.out.later b)
  replace B := hide (step B.out b)
  have Sd := hide r
  clear b r
  go_wp2_with fail
  refine (or2_sl _ (HE.out.later B.out) _ _ _ _ _ _ _ _ _ _ Sa.out Sb.out (by omega) (by omega)).mono ?_
  rintro e W29 ⟨adf, nf, cf, rfl, r, b⟩
  replace Sa := hide (Sa.out.later b)
  replace Sb := hide (Sb.out.later b)
  replace Sc := hide (Sc.out.later b)
  replace Sd := hide (Sd.out.later b)
  replace B := hide (step B.out b)
  have Sf := hide r
  clear b r
  go_wp2_with fail
  refine (same_sl _ _ _ _ _ _ _ _ _ _ _ Sd.out Sf.out (by omega) (Sp.or_comm_row Ha.out Hb.out)).mono ?_
  rintro e W30 ⟨rfl, b⟩
  replace Sa := hide (Sa.out.later b)
  replace Sb := hide (Sb.out.later b)
  replace Sc := hide (Sc.out.later b)
  replace Sd := hide (Sd.out.later b)
  replace Sf := hide (Sf.out.later b)
  replace B := hide (step B.out b)
  clear b
  clear Sd Sf
  go_wp2_with fail
  go_ret
  exact ⟨rfl, B.out⟩

end Go.Proofs.YtohnlhfgajipgaaGreatDoor.spanLaws
