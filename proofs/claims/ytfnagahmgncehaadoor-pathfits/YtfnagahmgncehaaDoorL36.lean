/-
  The walk of PathFits.
-/
import Derived.Test.YtfnagahmgncehaaDoorH10
namespace Go.Proofs.YtfnagahmgncehaaDoor.pathFits
set_option linter.unusedSimpArgs false
set_option linter.unusedVariables false
open Go.RowKit Go.Vr Go.Sort Go.Tx Go.Pa Go.Lib
attribute [local go_sem] setCellDrewN allocDrewN

set_option maxHeartbeats 4000000 in
set_option maxRecDepth 100000 in
theorem walk (a0 a1 a2 : Int) (w : World) (he : Env w) (h0 : -9223372036854775808 ≤ a0 ∧ a0 ≤ 9223372036854775807) (h1 : -9223372036854775808 ≤ a1 ∧ a1 ≤ 9223372036854775807) (h2 : -9223372036854775808 ≤ a2 ∧ a2 ≤ 9223372036854775807) :
    Calls Tryd.prog 5 #[.int .i64 a0, .int .i64 a1, .int .i64 a2] w fun e w' => e = .returned (.bool true) ∧ Below w.heap.size w w' := by
  have CK := hide (known4_any w he)
  have HE := hide he
  clear he
  have CA := hide (fun W => make4_any a0 W h0)
  obtain ⟨-, -, za⟩ := mkP_ok a0
  have ya : (str (mkP a0)).size ≤ 5000 := by rw [str_size]; omega
  have CM := hide (fun W => prmajor_any (str (mkP a0)) W ya)
  unfold mval at CM
  have CF := hide (fun (v : V) W hW => pfits_any (str (mkP a0)) v W ya hW)
  have CR := hide (fun (v : V) W => prfits_any (str (mkP a0)) v W ya)
  have C1 := hide (fun W hW => pfits_any (str (mkP a0)) ⟨(maj (str (mkP a0)).data.toList).2, 0, 0, ⟨#[]⟩⟩ W ya hW)
  simp only [fits_self] at C1
  have C2 := hide (fun W hW => pfits_any (str (mkP a0)) ⟨1, 0, 0, ⟨#[]⟩⟩ W ya hW)
  simp only [fits_one] at C2
  generalize str (maj (str (mkP a0)).data.toList).1 = x at *
  generalize (maj (str (mkP a0)).data.toList).2 = k at *
  generalize str (mkP a0) = A at *
  clear za ya
  go_enter Tryd.func5, Tryd.ntmps5
  go_wp2_with fail
  refine CK.out.mono ?_
  rintro e w1 ⟨rfl, b1⟩
  go_wp2_with fail
  refine (CA.out _).mono ?_
  rintro e w2 ⟨rfl, b2⟩
  have B2 := step b1 b2
  go_wp2_with fail
  refine (make_any a1 a2 _ h1 h2).mono ?_
  rintro e w3 ⟨v, rfl, -, b3⟩
  have B3 := step B2 b3
  obtain ⟨a, b, c, p⟩ := v
  have hb4 : Below w3.heap.size w3 (w3.alloc (.cells #[.int .i64 a, .int .i64 b, .int .i64 c, .string p] 33)) := (Below.refl _ _).alloc (Nat.le_refl _) _
  have V4 := hide (VarAt.new w3 ⟨a, b, c, p⟩)
  have B4 := step B3 hb4
  have C3 := hide (fun W hW => CF.out ⟨a, b, c, p⟩ W hW)
  have C4 := hide (fun W => CR.out ⟨a, b, c, ⟨#[120]⟩⟩ W)
  have C5 := hide (fun W hW => CF.out ⟨a, b, c, ⟨#[120]⟩⟩ W hW)
  simp only at C3 C4 C5
  generalize fits A.data.toList a = F at *
  have hNw : w.heap.size ≤ w3.heap.size := B3.size
  clear b1 b2 b3 B2 B3 hb4 h0 h1 h2 CF CR CA CK
  go_wp2_with fail
  refine (CM.out _).mono ?_
  rintro e w5 ⟨rfl, b5⟩
  have V5 := hide (V4.out.later b5)
  have B5 := step B4 b5
  clear V4 b5 B4
  obtain ⟨lt, c0, c1, c2, c3, -, -, -, f3⟩ := V5.out
  go_wp2_with fail
  refine (C3.out _ (HE.out.later B5)).mono ?_
  rintro e w6 ⟨rfl, b6⟩
  have V6 := hide (V5.out.later b6)
  have B6 := step B5 b6
  clear V5 b6 B5 lt c0 c1 c2 c3 f3
  obtain ⟨lt, c0, c1, c2, c3, -, -, -, f3⟩ := V6.out
  have V7 := hide (V6.out.set3 ⟨#[120]⟩)
  have B7 := B6.setCell (p := ⟨w3.heap.size, 3, none⟩) hNw (.string ⟨#[120]⟩)
  clear V6 B6
  go_wp2_with fail
  refine (C4.out _).mono ?_
  rintro e w8 ⟨rfl, b8⟩
  have V8 := hide (V7.out.later b8)
  have B8 := step B7 b8
  clear V7 b8 B7 lt c0 c1 c2 c3 f3
  obtain ⟨lt, c0, c1, c2, c3, -, -, -, f3⟩ := V8.out
  go_wp2_with fail
  refine (C5.out _ (HE.out.later B8)).mono ?_
  rintro e w9 ⟨rfl, b9⟩
  have B9 := step B8 b9
  clear V8 b9 B8 lt c0 c1 c2 c3 f3
  go_wp2_with fail
  refine (C1.out _ (HE.out.later B9)).mono ?_
  rintro e w10 ⟨rfl, b10⟩
  have B10 := step B9 b10
  go_wp2_with fail
  refine (C2.out _ (HE.out.later B10)).mono ?_
  rintro e w11 ⟨rfl, b11⟩
  have B11 := step B10 b11
  go_wp2_with fail
  go_ret
  exact ⟨by first | rfl | simp, B11⟩

end Go.Proofs.YtfnagahmgncehaaDoor.pathFits
