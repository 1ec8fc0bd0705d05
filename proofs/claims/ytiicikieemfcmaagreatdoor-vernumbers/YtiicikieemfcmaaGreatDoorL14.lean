/-
  The walk of VerNumbers.
-/
import Derived.Test.YtiicikieemfcmaaGreatDoorU18
import Derived.Test.YtiicikieemfcmaaGreatDoorM14
namespace Go.Proofs.YtiicikieemfcmaaGreatDoor.verNumbers
set_option linter.unusedSimpArgs false
set_option linter.unusedVariables false
open Go.RowKit Go.Vr Go.Sort Go.Tx Go.Lib
attribute [local go_sem] setCellDrewN allocDrewN

abbrev Z15 : ByteArray := ⟨#[48, 48, 48, 48, 48, 48, 48, 48, 48, 48, 48, 48, 48, 48, 48]⟩
theorem z_fact : ∀ i, i < 15 → (V.mk 0 0 0 ((⟨#[49]⟩ : ByteArray) ++ Z15.extract 0 i)).ok = true ∧ decide (0 < cmpV (V.mk 0 0 0 ((⟨#[49]⟩ : ByteArray) ++ Z15.extract 0 i)) ⟨0, 0, 0, ⟨#[57]⟩⟩) = decide (0 < (i : Int)) := by
  have h : ((List.range 15).all fun i => (V.mk 0 0 0 ((⟨#[49]⟩ : ByteArray) ++ Z15.extract 0 i)).ok && decide (decide (0 < cmpV (V.mk 0 0 0 ((⟨#[49]⟩ : ByteArray) ++ Z15.extract 0 i)) ⟨0, 0, 0, ⟨#[57]⟩⟩) = decide (0 < (i : Int)))) = true := by decide +kernel
  intro i hi
  have := List.all_eq_true.1 h i (List.mem_range.2 hi)
  rw [Bool.and_eq_true] at this
  exact ⟨this.1, of_decide_eq_true this.2⟩
theorem nine_ok : (V.mk 0 0 0 ⟨#[57]⟩).ok = true := by decide +kernel
theorem cmp_lt (x y : Int) : decide (compareInt x y < 0) = decide (x < y) ∧ (compareInt x y == 0) = (x == y) := by
  unfold compareInt
  by_cases h : x < y
  · have : ¬ x = y := by omega
    simp [h, this]
  · by_cases h2 : y < x
    · have : ¬ x = y := by omega
      simp [h, h2, this]
    · have : x = y := by omega
      simp [this]

set_option maxHeartbeats 4000000 in
set_option maxRecDepth 100000 in
theorem walk (a0 a1 a2 : Int) (w : World) (he : Env w) (h0 : -9223372036854775808 ≤ a0 ∧ a0 ≤ 9223372036854775807) (h1 : -9223372036854775808 ≤ a1 ∧ a1 ≤ 9223372036854775807) (h2 : -9223372036854775808 ≤ a2 ∧ a2 ≤ 9223372036854775807) :
    Calls Tryz.prog 11 #[.int .i64 a0, .int .i64 a1, .int .i64 a2] w fun e w' => e = .returned (.bool true) ∧ Below w.heap.size w w' := by
  have HE := hide he
  clear he
  go_enter Tryz.func11, Tryz.ntmps11
  go_wp2_with fail
  refine (known_any w HE.out).mono ?_
  rintro e w1 ⟨rfl, b1⟩
  have E1 := hide (HE.out.later b1)
  clear HE
  go_wp2_with fail
  refine (within_nat _ _ _ (by omega) (by omega) (by omega) (by omega)).mono ?_
  rintro e w2 ⟨X, rfl, hX, -, rfl⟩
  go_wp2_with fail
  refine (within_nat _ _ _ (by omega) (by omega) (by omega) (by omega)).mono ?_
  rintro e w3 ⟨Y, rfl, hY, -, rfl⟩
  go_wp2_with fail
  refine (within_nat _ _ _ (by omega) (by omega) (by omega) (by omega)).mono ?_
  rintro e w4 ⟨i, rfl, hi, Hi, rfl⟩
  obtain ⟨f1, f2⟩ := z_fact i (by omega)
  have zs : (Z15.extract 0 i).size ≤ 15 := by rw [ByteArray.size_extract]; have : Z15.size = 15 := rfl; omega
  have CU := hide (fun W => rtext_any 0 0 0 ((⟨#[49]⟩ : ByteArray) ++ Z15.extract 0 i) W (by rw [ByteArray.size_append]; have : (ByteArray.mk #[49]).size = 1 := rfl; omega) (by decide) (by decide) (by decide))
  have CV := hide (fun W => rtext_any 0 0 0 ⟨#[57]⟩ W (by decide) (by decide) (by decide) (by decide))
  have PU := hide (fun W hW => parse_any (str (txt ⟨0, 0, 0, (⟨#[49]⟩ : ByteArray) ++ Z15.extract 0 i⟩)) W (by have := (ok_txt f1).1; omega) hW)
  rw [parse_back f1] at PU
  have PV := hide (fun W hW => parse_any (str (txt ⟨0, 0, 0, ⟨#[57]⟩⟩)) W (by have := (ok_txt nine_ok).1; omega) hW)
  rw [parse_back nine_ok] at PV
  have C2 := hide (fun W hW => cmp_any ⟨0, 0, 0, (⟨#[49]⟩ : ByteArray) ++ Z15.extract 0 i⟩ ⟨0, 0, 0, ⟨#[57]⟩⟩ W f1 nine_ok hW)
  have CC := hide (fun W hW => cmp_any ⟨0, 0, 0, str (itoa X)⟩ ⟨0, 0, 0, str (itoa Y)⟩ W (num_ver_ok X (by omega)) (num_ver_ok Y (by omega)) hW)
  rw [num_ver_cmp] at CC
  obtain ⟨d1, d2⟩ := cmp_lt (X : Int) (Y : Int)
  have DX := hide (fun W => ldigits_any (X : Int) W (by omega) (by omega))
  have DY := hide (fun W => ldigits_any (Y : Int) W (by omega) (by omega))
  clear f1
  have n1 : ¬ 9223372036854775807 < 1 + (Z15.extract 0 i).size := by omega
  generalize hz : Z15.extract 0 i = z at *
  have HZ := hide hz
  clear hz zs
  generalize hq : (⟨#[49]⟩ : ByteArray) ++ z = q at *
  have HQ := hide hq
  clear hq
  generalize str (txt ⟨0, 0, 0, q⟩) = su at *
  generalize str (txt ⟨0, 0, 0, ⟨#[57]⟩⟩) = sv at *
  generalize cmpV ⟨0, 0, 0, q⟩ ⟨0, 0, 0, ⟨#[57]⟩⟩ = c2 at *
  generalize str (itoa (X : Int)) = dx at *
  generalize str (itoa (Y : Int)) = dy at *
  generalize compareInt (X : Int) (Y : Int) = cm at *
  simp only [pret, Option.getD_some, Option.isSome_some] at PU PV
  have i1 : (0 : Int) ≤ (i : Int) := by omega
  have i2 : (i : Int) ≤ 15 := by omega
  go_wp2_with fail
  rw [HZ.out]
  go_wp2_with fail
  rw [HQ.out]
  refine (CU.out _).mono ?_
  rintro e w5 ⟨rfl, b5⟩
  have E5 := hide (E1.out.later b5)
  have hB5 := step b1 b5
  clear E1
  go_wp2_with fail
  refine (CV.out _).mono ?_
  rintro e w6 ⟨rfl, b6⟩
  have E6 := hide (E5.out.later b6)
  have hB6 := step hB5 b6
  clear E5 hB5 b5 b1
  go_wp2_with fail
  refine (PU.out _ E6.out).mono ?_
  rintro e w7 ⟨rfl, b7⟩
  have ba7 : Below w7.heap.size w7 (w7.alloc (.cells #[.int .i64 0, .int .i64 0, .int .i64 0, .string q] 24)) := (Below.refl _ _).alloc (Nat.le_refl _) _
  have E7 := hide ((E6.out.later b7).later ba7)
  have hB7 := step (step hB6 b7) ba7
  have V7 := hide (VarAt.new w7 ⟨0, 0, 0, q⟩)
  clear E6 hB6 b6 b7 ba7
  go_wp2_with fail
  refine (PV.out _ E7.out).mono ?_
  rintro e w8 ⟨rfl, b8⟩
  have ba8 : Below w8.heap.size w8 (w8.alloc (.cells #[.int .i64 0, .int .i64 0, .int .i64 0, .string ⟨#[57]⟩] 24)) := (Below.refl _ _).alloc (Nat.le_refl _) _
  have E8 := hide ((E7.out.later b8).later ba8)
  have hB8 := step (step hB7 b8) ba8
  have V8 := hide ((V7.out.later b8).later ba8)
  have W8 := hide (VarAt.new w8 ⟨0, 0, 0, ⟨#[57]⟩⟩)
  clear E7 hB7 V7 b8 ba8
  go_wp2_with fail
  refine (DX.out _).mono ?_
  rintro e w9 ⟨rfl, b9⟩
  have E9 := hide (E8.out.later b9)
  have hB9 := step hB8 b9
  have V9 := hide (V8.out.later b9)
  have W9 := hide (W8.out.later b9)
  clear E8 hB8 V8 W8 b9
  go_wp2_with fail
  refine (DY.out _).mono ?_
  rintro e w10 ⟨rfl, b10⟩
  have E10 := hide (E9.out.later b10)
  have hB10 := step hB9 b10
  have V10 := hide (V9.out.later b10)
  have W10 := hide (W9.out.later b10)
  clear E9 hB9 V9 W9 b10
  go_wp2_with fail
  refine (CC.out _ E10.out).mono ?_
  rintro e w11 ⟨rfl, b11⟩
  have E11 := hide (E10.out.later b11)
  have hB11 := step hB10 b11
  obtain ⟨-, c0, c1, c2', c3, -, -, -, -⟩ := V10.out.later b11
  obtain ⟨-, k0, k1, k2, k3, -, -, -, -⟩ := W10.out.later b11
  clear E10 hB10 V10 W10 b11
  go_wp2_with fail
  refine (C2.out _ E11.out).mono ?_
  rintro e w12 ⟨rfl, b12⟩
  have hB12 := step hB11 b12
  go_wp2_with fail
  refine (within_nat _ _ _ (by omega) (by omega) (by omega) (by omega)).mono ?_
  rintro e w13 ⟨i', rfl, hi', Hi', rfl⟩
  obtain rfl : i' = i := by have := Hi.out; have := Hi'.out; omega
  go_wp2_with fail
  go_ret
  exact ⟨by simp [d1, d2, f2], hB12⟩

end Go.Proofs.YtiicikieemfcmaaGreatDoor.verNumbers
