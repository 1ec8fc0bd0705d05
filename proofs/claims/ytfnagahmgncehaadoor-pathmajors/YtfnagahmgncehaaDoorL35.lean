/-
  The walk of PathMajors.
-/
import Derived.Test.YtfnagahmgncehaaDoorH10
namespace Go.Proofs.YtfnagahmgncehaaDoor.pathMajors
set_option linter.unusedSimpArgs false
set_option linter.unusedVariables false
open Go.RowKit Go.Vr Go.Sort Go.Tx Go.Pa Go.Lib
attribute [local go_sem] setCellDrewN allocDrewN

set_option maxHeartbeats 4000000 in
set_option maxRecDepth 100000 in
theorem walk (a0 a1 : Int) (w : World) (he : Env w) (h0 : -9223372036854775808 ≤ a0 ∧ a0 ≤ 9223372036854775807) (h1 : -9223372036854775808 ≤ a1 ∧ a1 ≤ 9223372036854775807) :
    Calls Tryd.prog 4 #[.int .i64 a0, .int .i64 a1] w fun e w' => e = .returned (.bool true) ∧ Below w.heap.size w w' := by
  have CK := hide (known4_any w he)
  have HE := hide he
  clear he
  have CA := hide (fun W => make4_any a0 W h0)
  have CB := hide (fun W => make4_any a1 W h1)
  obtain ⟨-, -, za⟩ := mkP_ok a0
  obtain ⟨-, -, zb⟩ := mkP_ok a1
  have ya : (str (mkP a0)).size ≤ 15 := by rw [str_size]; exact za
  have yb : (str (mkP a1)).size ≤ 15 := by rw [str_size]; exact zb
  clear za zb
  generalize str (mkP a0) = A at *
  generalize str (mkP a1) = B at *
  have CM := hide (fun W hW => pmajor_any A W (by omega) hW)
  have CR := hide (fun W => prmajor_any A W (by omega))
  unfold mval at CM CR
  obtain ⟨hk0, hk9, -⟩ := maj_nonneg A.data.toList
  have hz := hide (fun h => maj_zero (s := A.data.toList) h)
  have hm := hide (fun h => maj_more (s := A.data.toList) h)
  have hxl := maj_len A.data.toList
  rw [len_eq] at hxl
  have hxs : (str (maj A.data.toList).1).size ≤ 15 := by rw [str_size]; omega
  have CD := hide (fun W => digits4_any (maj A.data.toList).2 W hk0 (by omega))
  generalize hx : (maj A.data.toList).1 = x at *
  generalize hk : (maj A.data.toList).2 = k at *
  obtain ⟨hd1, hd2, hd3, hd4⟩ := itoa_ok k hk0 (by omega)
  have hdl : (str (itoa k)).size ≤ 9 := by rw [str_size]; exact okNum_len hd1
  clear hx hk hd1 hd2 hd3 hd4 hxl
  have q1 : (ByteArray.mk #[47, 118]).size = 2 := rfl
  have n1 : ¬ 9223372036854775807 < (str x).size + 2 := by omega
  have n2 : ¬ 9223372036854775807 < (str x ++ ⟨#[47, 118]⟩).size + (str (itoa k)).size := by rw [ByteArray.size_append]; omega
  have n3 : ¬ 9223372036854775807 < B.size + 2 := by omega
  go_enter Tryd.func4, Tryd.ntmps4
  go_wp2_with fail
  refine CK.out.mono ?_
  rintro e w1 ⟨rfl, b1⟩
  go_wp2_with fail
  refine (CA.out _).mono ?_
  rintro e w2 ⟨rfl, b2⟩
  have B2 := step b1 b2
  clear b1 b2 CK CA
  go_wp2_with fail
  refine (CM.out _ (HE.out.later B2)).mono ?_
  rintro e w3 ⟨rfl, b3⟩
  have B3 := step B2 b3
  clear b3 B2 CM
  go_wp2_with fail
  refine (CR.out _).mono ?_
  rintro e w4 ⟨rfl, b4⟩
  have B4 := step B3 b4
  clear b4 B3 CR
  go_wp2_with fail
  refine (within4_nat _ _ _ (by omega) (by omega) (by omega) (by omega)).mono ?_
  rintro e w5 ⟨j, rfl, hj, -, rfl⟩
  have hj2 : (2 : Int) + (j : Int) ≤ 99 := by omega
  have hj0 : (2 : Int) ≤ 2 + (j : Int) := by omega
  have w1' : IntKind.i64.wrap (2 + (j : Int)) = 2 + (j : Int) := by rw [IntKind.wrap_i64]; omega
  have CJ := hide (fun W => digits4_any (2 + (j : Int)) W (by omega) (by omega))
  have HP := hide (maj_put B.data.toList hj0 (by omega))
  obtain ⟨hd1, hd2, hd3, hd4⟩ := itoa_ok (2 + (j : Int)) (by omega) (by omega)
  have hjl : (str (itoa (2 + (j : Int)))).size ≤ 9 := by rw [str_size]; exact okNum_len hd1
  have n4 : ¬ 9223372036854775807 < (B ++ ⟨#[47, 118]⟩).size + (str (itoa (2 + (j : Int)))).size := by rw [ByteArray.size_append]; omega
  have hTs : ((B ++ ⟨#[47, 118]⟩) ++ str (itoa (2 + (j : Int)))).size ≤ 26 := by rw [ByteArray.size_append, ByteArray.size_append]; omega
  have CT := hide (fun W hW => pmajor_any ((B ++ ⟨#[47, 118]⟩) ++ str (itoa (2 + (j : Int)))) W (by omega) hW)
  have eT : ((B ++ ⟨#[47, 118]⟩) ++ str (itoa (2 + (j : Int)))).data.toList = B.data.toList ++ 47 :: 118 :: itoa (2 + (j : Int)) := by rw [ba_app, ba_app, str_list]; simp
  unfold mval at CT
  rw [eT, HP.out] at CT
  simp only [str_of] at CT
  have dT : decide ((40 : Int) < (B.size : Int) + 2 + ((str (itoa (2 + (j : Int)))).size : Int)) = false := decide_eq_false (by omega)
  clear hd1 hd2 hd3 hd4 hjl eT HP hj hTs hj2 hj0 ya yb hxs hdl q1 h0 h1
  generalize str (itoa (2 + (j : Int))) = jt at *
  go_wp2_with fail
  refine (CB.out _).mono ?_
  rintro e w6 ⟨rfl, b6⟩
  have B6 := step B4 b6
  clear b6 B4
  go_wp2_with fail
  refine (CJ.out _).mono ?_
  rintro e w7 ⟨rfl, b7⟩
  have B7 := step B6 b7
  clear b7 B6
  go_wp2_with fail
  refine (CT.out _ (HE.out.later B7)).mono ?_
  rintro e w8 ⟨rfl, b8⟩
  have B8 := step B7 b8
  clear b8 B7
  by_cases hk : k = 0
  · have e1 := hz.out hk
    have e2 : str x = A := by rw [e1, str_of]
    have k1 : (k == 0) = true := by simpa using hk
    have k2 : decide (0 < k) = false := decide_eq_false (by omega)
    have k3 : (k != k) = false := by simp
    rw [e2] at *
    clear hz hm e1 e2 hk hk0 hk9 CD
    go_wp2_with fail
    refine (CB.out _).mono ?_
    rintro e w9 ⟨rfl, b9⟩
    have B9 := step B8 b9
    go_wp2_with fail
    go_ret
    exact ⟨by first | rfl | simp, B9⟩
  · have e1 := hm.out hk
    have e2 : (str x ++ ⟨#[47, 118]⟩) ++ str (itoa k) = A := by
      refine ba_ext ?_
      rw [ba_app, ba_app, str_list, str_list, e1]; simp
    have k1 : (k == 0) = false := by simpa using hk
    have k2 : decide (0 < k) = true := decide_eq_true (by omega)
    clear hz hm e1 hk hk0 hk9
    generalize str (itoa k) = kt at *
    generalize str x = xs at *
    go_wp2_with fail
    refine (CD.out _).mono ?_
    rintro e w9 ⟨rfl, b9⟩
    have B9 := step B8 b9
    go_wp2_with fail
    refine (CB.out _).mono ?_
    rintro e w10 ⟨rfl, b10⟩
    have B10 := step B9 b10
    go_wp2_with fail
    go_ret
    exact ⟨by first | rfl | simp, B10⟩

end Go.Proofs.YtfnagahmgncehaaDoor.pathMajors
