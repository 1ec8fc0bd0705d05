/-
  The walk of VerBack.
-/
import Derived.Test.YtiicikieemfcmaaGreatDoorU18
namespace Go.Proofs.YtiicikieemfcmaaGreatDoor.verBack
set_option linter.unusedSimpArgs false
set_option linter.unusedVariables false
open Go.RowKit Go.Vr Go.Sort Go.Tx Go.Lib
attribute [local go_sem] setCellDrewN allocDrewN

set_option maxHeartbeats 4000000 in
set_option maxRecDepth 100000 in
theorem walk (a0 a1 : Int) (w : World) (he : Env w) (h0 : -9223372036854775808 ≤ a0 ∧ a0 ≤ 9223372036854775807) (h1 : -9223372036854775808 ≤ a1 ∧ a1 ≤ 9223372036854775807) :
    Calls Tryz.prog 3 #[.int .i64 a0, .int .i64 a1] w fun e w' => e = .returned (.bool true) ∧ Below w.heap.size w w' := by
  have HE := hide he
  clear he
  go_enter Tryz.func3, Tryz.ntmps3
  go_wp2_with fail
  refine (known_any w HE.out).mono ?_
  rintro e w1 ⟨rfl, b1⟩
  have E1 := hide (HE.out.later b1)
  clear HE
  go_wp2_with fail
  refine (make_any a0 a1 w1 h0 h1).mono ?_
  rintro e w2 ⟨v, rfl, hv, b2⟩
  have E2 := hide (E1.out.later b2)
  have hB2 := step b1 b2
  clear E1 h0 h1
  have CT := hide (fun W hW => text_any v W hv hW)
  have CP := hide (fun W hW => parse_any (str (txt v)) W (by have := (ok_txt hv).1; omega) hW)
  rw [parse_back hv] at CP
  have CR := hide (fun W hW => right_any v W (by have := ok_size hv; unfold maxLen; omega) hW)
  rw [hv] at CR
  obtain ⟨p1, p2, p3⟩ := ok_bd hv
  have CF := hide (fun W => rtext_any v.a v.b v.c v.p W (by have := ok_size hv; omega) p1 p2 p3)
  clear p1 p2 p3 hv
  obtain ⟨a, b, c, p⟩ := v
  simp only [pret, Option.getD_some, Option.isSome_some] at CP CF
  generalize str (txt ⟨a, b, c, p⟩) = s at *
  have ba2 : Below w2.heap.size w2 (w2.alloc (.cells #[.int .i64 a, .int .i64 b, .int .i64 c, .string p] 24)) := (Below.refl _ _).alloc (Nat.le_refl _) _
  have V2 := hide (VarAt.new w2 ⟨a, b, c, p⟩)
  have E3 := hide (E2.out.later ba2)
  have hB3 := step hB2 ba2
  clear E2 hB2 b1 b2
  go_wp2_with fail
  refine (CT.out _ E3.out).mono ?_
  rintro e w4 ⟨rfl, b4⟩
  have E4 := hide (E3.out.later b4)
  have hB4 := step hB3 b4
  have V4 := hide (V2.out.later b4)
  clear E3 hB3 V2 CT
  go_wp2_with fail
  refine (CP.out _ E4.out).mono ?_
  rintro e w5 ⟨rfl, b5⟩
  have E5 := hide (E4.out.later b5)
  have hB5 := step hB4 b5
  have V5 := hide (V4.out.later b5)
  have W5 := hide (VarAt.new w5 ⟨a, b, c, p⟩)
  have ba5 : Below w5.heap.size w5 (w5.alloc (.cells #[.int .i64 a, .int .i64 b, .int .i64 c, .string p] 24)) := (Below.refl _ _).alloc (Nat.le_refl _) _
  have E6 := hide (E5.out.later ba5)
  have hB6 := step hB5 ba5
  have V6 := hide (V5.out.later ba5)
  clear E4 hB4 V4 CP
  obtain ⟨l5, c0, c1, c2, c3, -, -, -, -⟩ := V5.out
  have m0 := World.new_ne w5 ⟨w2.heap.size, 0, none⟩ c0
  have hn : ¬ w2.heap.size = w5.heap.size := by omega
  go_wp2_with fail
  refine (CR.out _ E6.out).mono ?_
  rintro e w7 ⟨rfl, b7⟩
  have hB7 := step hB6 b7
  have V7 := hide (V6.out.later b7)
  have W7 := hide (W5.out.later b7)
  clear E5 hB5 V5 c0 c1 c2 c3 m0 hn l5
  obtain ⟨l7, c0, c1, c2, c3, -, -, -, -⟩ := V7.out
  obtain ⟨k7, d0, d1, d2, d3, -, -, -, -⟩ := W7.out
  go_wp2_with fail
  refine (CF.out _).mono ?_
  rintro e w8 ⟨rfl, b8⟩
  have hB8 := step hB7 b8
  clear c0 c1 c2 c3 d0 d1 d2 d3
  obtain ⟨l8, c0, c1, c2, c3, -, -, -, -⟩ := V7.out.later b8
  obtain ⟨k8, d0, d1, d2, d3, -, -, -, -⟩ := W7.out.later b8
  go_wp2_with fail
  go_ret
  exact ⟨by first | rfl | simp, hB8⟩

end Go.Proofs.YtiicikieemfcmaaGreatDoor.verBack
