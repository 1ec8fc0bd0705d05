/-
  The walk of PathWithin.
-/
import Derived.Test.YtfnagahmgncehaaDoorH10
namespace Go.Proofs.YtfnagahmgncehaaDoor.pathWithin
set_option linter.unusedSimpArgs false
set_option linter.unusedVariables false
open Go.RowKit Go.Vr Go.Sort Go.Tx Go.Pa Go.Lib
attribute [local go_sem] setCellDrewN allocDrewN

set_option maxHeartbeats 4000000 in
set_option maxRecDepth 100000 in
theorem walk (a0 a1 : Int) (s2 s3 : ByteArray) (w : World) (he : Env w) (h0 : -9223372036854775808 ≤ a0 ∧ a0 ≤ 9223372036854775807) (h1 : -9223372036854775808 ≤ a1 ∧ a1 ≤ 9223372036854775807) (h2 : s2.size ≤ maxLen) (h3 : s3.size ≤ maxLen) :
    Calls Tryd.prog 6 #[.int .i64 a0, .int .i64 a1, .string s2, .string s3] w fun e w' => e = .returned (.bool true) ∧ Below w.heap.size w w' := by
  have CK := hide (known4_any w he)
  clear he
  by_cases l2 : 60 < s2.size
  · have hd : decide ((60 : Int) < (s2.size : Int)) = true := decide_eq_true (by omega)
    clear l2
    go_enter Tryd.func6, Tryd.ntmps6
    go_wp2_with fail
    refine CK.out.mono ?_
    rintro e w1 ⟨rfl, b1⟩
    go_wp2_with fail
    go_ret
    exact ⟨rfl, b1⟩
  have d2 : decide ((60 : Int) < (s2.size : Int)) = false := decide_eq_false (by omega)
  by_cases l3 : 60 < s3.size
  · have hd : decide ((60 : Int) < (s3.size : Int)) = true := decide_eq_true (by omega)
    clear l2 l3
    go_enter Tryd.func6, Tryd.ntmps6
    go_wp2_with fail
    refine CK.out.mono ?_
    rintro e w1 ⟨rfl, b1⟩
    go_wp2_with fail
    go_ret
    exact ⟨rfl, b1⟩
  have d3 : decide ((60 : Int) < (s3.size : Int)) = false := decide_eq_false (by omega)
  have CA := hide (fun W => make4_any a0 W h0)
  have CB := hide (fun W => make4_any a1 W h1)
  obtain ⟨-, -, za⟩ := mkP_ok a0
  obtain ⟨-, -, zb⟩ := mkP_ok a1
  have ya : (str (mkP a0)).size ≤ 15 := by rw [str_size]; exact za
  have yb : (str (mkP a1)).size ≤ 15 := by rw [str_size]; exact zb
  generalize str (mkP a0) = A at *
  generalize str (mkP a1) = B at *
  clear za zb h0 h1
  have q1 : (ByteArray.mk #[47]).size = 1 := rfl
  have q2 : (ByteArray.mk #[120]).size = 1 := rfl
  have n1 : ¬ 9223372036854775807 < A.size + 1 := by omega
  have n2 : ¬ 9223372036854775807 < (A ++ ⟨#[47]⟩).size + B.size := by rw [ByteArray.size_append]; omega
  have C1 := hide (fun W => pwithin_any s2 s3 W)
  have C2 := hide (fun W => prwithin_any s2 s3 W (by omega) (by omega))
  have C3 := hide (fun W => pwithin_any A B W)
  have C4 := hide (fun W => prwithin_any A B W (by omega) (by omega))
  have eab : ((A ++ ⟨#[47]⟩) ++ B).data.toList = A.data.toList ++ 47 :: B.data.toList := by rw [ba_app, ba_app]; simp
  have C5 := hide (fun W => pwithin_any ((A ++ ⟨#[47]⟩) ++ B) A W)
  rw [eab, inside_more] at C5
  have C6 := hide (fun W => pwithin_any A A W)
  rw [inside_self] at C6
  have C7 := hide (fun W => pwithin_any A ((A ++ ⟨#[47]⟩) ++ B) W)
  rw [eab, inside_less] at C7
  have C8 := hide (fun W => pwithin_any (A ++ ⟨#[120]⟩) A W)
  rw [show (A ++ ⟨#[120]⟩).data.toList = A.data.toList ++ [120] by rw [ba_app], inside_x] at C8
  generalize inside s2.data.toList s3.data.toList = i1 at *
  generalize inside A.data.toList B.data.toList = i2 at *
  clear ya yb q1 q2 l2 l3 h2 h3 eab
  go_enter Tryd.func6, Tryd.ntmps6
  go_wp2_with fail
  refine CK.out.mono ?_
  rintro e w1 ⟨rfl, b1⟩
  go_wp2_with fail
  refine (CA.out _).mono ?_
  rintro e w2 ⟨rfl, b2⟩
  have B2 := step b1 b2
  go_wp2_with fail
  refine (CB.out _).mono ?_
  rintro e w3 ⟨rfl, b3⟩
  have B3 := step B2 b3
  clear b1 b2 b3 B2
  go_wp2_with fail
  refine (C1.out _).mono ?_
  rintro e w4 ⟨rfl, rfl⟩
  go_wp2_with fail
  refine (C2.out _).mono ?_
  rintro e w4 ⟨rfl, rfl⟩
  go_wp2_with fail
  refine (C3.out _).mono ?_
  rintro e w4 ⟨rfl, rfl⟩
  go_wp2_with fail
  refine (C4.out _).mono ?_
  rintro e w4 ⟨rfl, rfl⟩
  go_wp2_with fail
  refine (C5.out _).mono ?_
  rintro e w4 ⟨rfl, rfl⟩
  go_wp2_with fail
  refine (C6.out _).mono ?_
  rintro e w4 ⟨rfl, rfl⟩
  go_wp2_with fail
  refine (C7.out _).mono ?_
  rintro e w4 ⟨rfl, rfl⟩
  go_wp2_with fail
  refine (C8.out _).mono ?_
  rintro e w4 ⟨rfl, rfl⟩
  go_wp2_with fail
  go_ret
  exact ⟨rfl, B3⟩

end Go.Proofs.YtfnagahmgncehaaDoor.pathWithin
