/-
  The walk of VerTimes.
-/
import Derived.Test.YtiicikieemfcmaaGreatDoorU18
import Derived.Test.YtiicikieemfcmaaGreatDoorM15
namespace Go.Proofs.YtiicikieemfcmaaGreatDoor.verTimes
set_option linter.unusedSimpArgs false
set_option linter.unusedVariables false
open Go.RowKit Go.Vr Go.Sort Go.Tx Go.Lib
attribute [local go_sem] setCellDrewN allocDrewN

abbrev I1 : ByteArray := ⟨#[48, 48, 49, 49, 50, 50, 51, 51, 52, 52, 53, 53, 54, 54]⟩
abbrev I2 : ByteArray := ⟨#[102, 102, 49, 49, 50, 50, 51, 51, 52, 52, 53, 53, 54, 54]⟩
theorem id1 : idOk I1.data.toList = true := by decide +kernel
theorem id2 : idOk I2.data.toList = true := by decide +kernel
theorem ids : compareBytes (I1.data.toList.take 12) (I2.data.toList.take 12) = -1 := by decide +kernel
theorem time_ok (n : Nat) (h : n < 100000000000000) : timeOk n = true := by unfold timeOk; simp; omega
theorem pseudo_is (has : Bool) (u : V) (n : Nat) (id : ByteArray) (h : n < 100000000000000) (hi : idOk id.data.toList = true) : pseudo has u n id.data.toList = if (pver has u n id.data.toList).ok = true then some (pver has u n id.data.toList) else none := by
  unfold pseudo
  rw [if_pos ⟨time_ok n h, hi⟩]
theorem cmp_lt (x y : Int) : decide (compareInt x y < 0) = decide (x < y) ∧ (compareInt x y == 0) = (x == y) := by
  unfold compareInt
  by_cases h : x < y
  · have : ¬ x = y := by omega
    simp [h, this]
  · by_cases h2 : y < x
    · have : ¬ x = y := by omega
      simp [h, h2, this]
    · have : x = y := by omega
      simp [this]
theorem bytes_refl : ∀ l : Bs, compareBytes l l = 0 := fun l => ord_bytes.refl l
theorem three_ver (has : Bool) (u : V) (x y : Nat) (hx : x < 100000000000000) (hy : y < 100000000000000) :
    (pver has u y I1.data.toList).ok = (pver has u x I1.data.toList).ok ∧ (pver has u x I2.data.toList).ok = (pver has u x I1.data.toList).ok ∧ cmpV (pver has u x I1.data.toList) (pver has u y I1.data.toList) = compareInt x y ∧ cmpV (pver has u x I1.data.toList) (pver has u x I2.data.toList) = -1 := by
  refine ⟨pver_ok _ _ _ _ _ _ (time_ok y hy) (time_ok x hx) id1 id1, pver_ok _ _ _ _ _ _ (time_ok x hx) (time_ok x hx) id2 id1, ?_, ?_⟩
  · rw [cmp_pver _ _ _ _ _ _ (time_ok x hx) (time_ok y hy) id1 id1, bytes_refl, seq_right]
  · rw [cmp_pver _ _ _ _ _ _ (time_ok x hx) (time_ok x hx) id1 id2, ids, ord_int.refl, seq_zero]

set_option maxHeartbeats 8000000 in
set_option maxRecDepth 100000 in
theorem walk (a0 : Bool) (a1 a2 a3 a4 : Int) (w : World) (he : Env w) (h1 : -9223372036854775808 ≤ a1 ∧ a1 ≤ 9223372036854775807) (h2 : -9223372036854775808 ≤ a2 ∧ a2 ≤ 9223372036854775807) (h3 : -9223372036854775808 ≤ a3 ∧ a3 ≤ 9223372036854775807) (h4 : -9223372036854775808 ≤ a4 ∧ a4 ≤ 9223372036854775807) :
    Calls Tryz.prog 15 #[.bool a0, .int .i64 a1, .int .i64 a2, .int .i64 a3, .int .i64 a4] w fun e w' => e = .returned (.bool true) ∧ Below w.heap.size w w' := by
  have HE := hide he
  clear he
  cases a0
  · go_enter Tryz.func15, Tryz.ntmps15
    go_wp2_with fail
    refine (known_any w HE.out).mono ?_
    rintro e w1 ⟨rfl, b1⟩
    go_wp2_with fail
    refine (make_any a1 a2 _ h1 h2).mono ?_
    rintro e w2 ⟨v, rfl, hv, b2⟩
    have hB2 := step b1 b2
    obtain ⟨ua, ub, uc, up⟩ := v
    clear b1 b2 h1 h2
    go_wp2_with fail
    have hu : (V.mk 0 0 0 ⟨#[]⟩).ok = true := by decide +kernel
    clear hv
    have ba2 : Below w2.heap.size w2 (w2.alloc (.cells #[.int .i64 (0), .int .i64 (0), .int .i64 (0), .string ⟨#[]⟩] 24)) := (Below.refl _ _).alloc (Nat.le_refl _) _
    have V2 := hide (VarAt.new w2 (V.mk (0) (0) (0) ⟨#[]⟩))
    have hB3 := step hB2 ba2
    clear ba2 hB2
    refine (within_nat _ _ _ (by omega) (by omega) (by omega) (by omega)).mono ?_
    rintro e w3 ⟨X, rfl, hX, -, rfl⟩
    go_wp2_with fail
    refine (within_nat _ _ _ (by omega) (by omega) (by omega) (by omega)).mono ?_
    rintro e w4 ⟨Y, rfl, hY, -, rfl⟩
    have hX2 : X < 100000000000000 := by omega
    have hY2 : Y < 100000000000000 := by omega
    have hz := ok_size hu
    have hcc := (ok_parts hu).2.2.1
    obtain ⟨o1, o2, o3, o4⟩ := three_ver false (V.mk (0) (0) (0) ⟨#[]⟩) X Y hX2 hY2
    have C1 := hide (fun W hW => pseudo_any false (V.mk (0) (0) (0) ⟨#[]⟩) X I1 W hcc (by omega) (by omega) (by omega) (by decide) hW)
    have C2 := hide (fun W hW => pseudo_any false (V.mk (0) (0) (0) ⟨#[]⟩) Y I1 W hcc (by omega) (by omega) (by omega) (by decide) hW)
    have C3 := hide (fun W hW => pseudo_any false (V.mk (0) (0) (0) ⟨#[]⟩) X I2 W hcc (by omega) (by omega) (by omega) (by decide) hW)
    rw [pseudo_is _ _ _ _ hX2 id1] at C1
    rw [pseudo_is _ _ _ _ hY2 id1, o1] at C2
    rw [pseudo_is _ _ _ _ hX2 id2, o2] at C3
    have D12 := hide (fun (k : (pver false (V.mk (0) (0) (0) ⟨#[]⟩) X I1.data.toList).ok = true) W hW => cmp_any (pver false (V.mk (0) (0) (0) ⟨#[]⟩) X I1.data.toList) (pver false (V.mk (0) (0) (0) ⟨#[]⟩) Y I1.data.toList) W k (o1.trans k) hW)
    have D13 := hide (fun (k : (pver false (V.mk (0) (0) (0) ⟨#[]⟩) X I1.data.toList).ok = true) W hW => cmp_any (pver false (V.mk (0) (0) (0) ⟨#[]⟩) X I1.data.toList) (pver false (V.mk (0) (0) (0) ⟨#[]⟩) X I2.data.toList) W k (o2.trans k) hW)
    rw [o3] at D12
    rw [o4] at D13
    obtain ⟨d1, d2⟩ := cmp_lt (X : Int) (Y : Int)
    clear o1 o2 o3 o4 hz hcc hu
    generalize pver false (V.mk (0) (0) (0) ⟨#[]⟩) X I1.data.toList = P1 at *
    generalize pver false (V.mk (0) (0) (0) ⟨#[]⟩) Y I1.data.toList = P2 at *
    generalize pver false (V.mk (0) (0) (0) ⟨#[]⟩) X I2.data.toList = P3 at *
    generalize compareInt (X : Int) (Y : Int) = cm at *
    obtain ⟨-, c0, c1, c2, c3, -, -, -, -⟩ := V2.out
    by_cases hk : P1.ok = true
    · have D12' := hide (D12.out hk)
      have D13' := hide (D13.out hk)
      rw [if_pos hk] at C1 C2 C3
      clear D12 D13 hk
      obtain ⟨pa, pb, pc, pp⟩ := P1
      obtain ⟨qa, qb, qc, qp⟩ := P2
      obtain ⟨ra, rb, rc, rp⟩ := P3
      simp only [pret, Option.getD_some, Option.isSome_some] at C1 C2 C3
      go_wp2_with fail
      refine (C1.out _ (HE.out.later hB3)).mono ?_
      rintro e w5 ⟨rfl, b5⟩
      have ba5 : Below w5.heap.size w5 (w5.alloc (.cells #[.int .i64 pa, .int .i64 pb, .int .i64 pc, .string pp] 24)) := (Below.refl _ _).alloc (Nat.le_refl _) _
      have hB5 := step (step hB3 b5) ba5
      have V5 := hide ((V2.out.later b5).later ba5)
      have P5 := hide (VarAt.new w5 ⟨pa, pb, pc, pp⟩)
      obtain ⟨k5, x0, x1, x2, x3, -, -, -, -⟩ := V2.out.later b5
      have hne5 : ¬ w2.heap.size = w5.heap.size := by omega
      clear c0 c1 c2 c3 V2 hB3 C1
      go_wp2_with fail
      refine (C2.out _ (HE.out.later hB5)).mono ?_
      rintro e w6 ⟨rfl, b6⟩
      have ba6 : Below w6.heap.size w6 (w6.alloc (.cells #[.int .i64 qa, .int .i64 qb, .int .i64 qc, .string qp] 24)) := (Below.refl _ _).alloc (Nat.le_refl _) _
      have hB6 := step (step hB5 b6) ba6
      have V6 := hide ((V5.out.later b6).later ba6)
      have P6 := hide ((P5.out.later b6).later ba6)
      have Q6 := hide (VarAt.new w6 ⟨qa, qb, qc, qp⟩)
      clear x0 x1 x2 x3 k5 hne5 hB5 C2
      obtain ⟨k6, x0, x1, x2, x3, -, -, -, -⟩ := P5.out.later b6
      have hne6 : ¬ w5.heap.size = w6.heap.size := by omega
      clear V5 P5 ba5 ba6 b5 b6
      go_wp2_with fail
      refine (D12'.out _ (HE.out.later hB6)).mono ?_
      rintro e w7 ⟨rfl, b7⟩
      have hB7 := step hB6 b7
      have V7 := hide (V6.out.later b7)
      have P7 := hide (P6.out.later b7)
      clear x0 x1 x2 x3 k6 hne6 hB6 Q6 V6 P6 D12' b7
      obtain ⟨-, c0, c1, c2, c3, -, -, -, -⟩ := V7.out
      go_wp2_with fail
      refine (C3.out _ (HE.out.later hB7)).mono ?_
      rintro e w8 ⟨rfl, b8⟩
      have ba8 : Below w8.heap.size w8 (w8.alloc (.cells #[.int .i64 ra, .int .i64 rb, .int .i64 rc, .string rp] 24)) := (Below.refl _ _).alloc (Nat.le_refl _) _
      have hB8 := step (step hB7 b8) ba8
      clear c0 c1 c2 c3 V7 hB7
      obtain ⟨k8, x0, x1, x2, x3, -, -, -, -⟩ := P7.out.later b8
      have hne8 : ¬ w5.heap.size = w8.heap.size := by omega
      clear P7 b8 ba8
      go_wp2_with fail
      refine (D13'.out _ (HE.out.later hB8)).mono ?_
      rintro e w9 ⟨rfl, b9⟩
      go_wp2_with fail
      go_ret
      exact ⟨by first | rfl | simp [d1, d2], step hB8 b9⟩
    · rw [if_neg hk] at C1 C2
      have C1' : Hid (∀ W, Env W → Calls Tryz.prog 29 #[.bool false, val (V.mk (0) (0) (0) ⟨#[]⟩), .int .i64 (X : Int), .string I1] W fun e w' => e = .returned (.tuple #[ver 0 0 0 ⟨#[]⟩, .bool false]) ∧ Below W.heap.size W w') := C1
      have C2' : Hid (∀ W, Env W → Calls Tryz.prog 29 #[.bool false, val (V.mk (0) (0) (0) ⟨#[]⟩), .int .i64 (Y : Int), .string I1] W fun e w' => e = .returned (.tuple #[ver 0 0 0 ⟨#[]⟩, .bool false]) ∧ Below W.heap.size W w') := C2
      clear C1 C2 C3 D12 D13 hk
      go_wp2_with fail
      refine (C1'.out _ (HE.out.later hB3)).mono ?_
      rintro e w5 ⟨rfl, b5⟩
      have ba5 : Below w5.heap.size w5 (w5.alloc (.cells #[.int .i64 0, .int .i64 0, .int .i64 0, .string ⟨#[]⟩] 24)) := (Below.refl _ _).alloc (Nat.le_refl _) _
      have hB5 := step (step hB3 b5) ba5
      obtain ⟨k5, x0, x1, x2, x3, -, -, -, -⟩ := V2.out.later b5
      have hne5 : ¬ w2.heap.size = w5.heap.size := by omega
      clear c0 c1 c2 c3 V2 hB3
      go_wp2_with fail
      refine (C2'.out _ (HE.out.later hB5)).mono ?_
      rintro e w6 ⟨rfl, b6⟩
      have ba6 : Below w6.heap.size w6 (w6.alloc (.cells #[.int .i64 0, .int .i64 0, .int .i64 0, .string ⟨#[]⟩] 24)) := (Below.refl _ _).alloc (Nat.le_refl _) _
      have hB6 := step (step hB5 b6) ba6
      clear x0 x1 x2 x3 k5 hne5
      go_wp2_with fail
      go_ret
      exact ⟨by first | rfl | simp, hB6⟩
  · go_enter Tryz.func15, Tryz.ntmps15
    go_wp2_with fail
    refine (known_any w HE.out).mono ?_
    rintro e w1 ⟨rfl, b1⟩
    go_wp2_with fail
    refine (make_any a1 a2 _ h1 h2).mono ?_
    rintro e w2 ⟨v, rfl, hv, b2⟩
    have hB2 := step b1 b2
    obtain ⟨ua, ub, uc, up⟩ := v
    clear b1 b2 h1 h2
    go_wp2_with fail
    have hu := hv
    have ba2 : Below w2.heap.size w2 (w2.alloc (.cells #[.int .i64 (ua), .int .i64 (ub), .int .i64 (uc), .string up] 24)) := (Below.refl _ _).alloc (Nat.le_refl _) _
    have V2 := hide (VarAt.new w2 (V.mk (ua) (ub) (uc) up))
    have hB3 := step hB2 ba2
    clear ba2 hB2
    refine (within_nat _ _ _ (by omega) (by omega) (by omega) (by omega)).mono ?_
    rintro e w3 ⟨X, rfl, hX, -, rfl⟩
    go_wp2_with fail
    refine (within_nat _ _ _ (by omega) (by omega) (by omega) (by omega)).mono ?_
    rintro e w4 ⟨Y, rfl, hY, -, rfl⟩
    have hX2 : X < 100000000000000 := by omega
    have hY2 : Y < 100000000000000 := by omega
    have hz := ok_size hu
    have hcc := (ok_parts hu).2.2.1
    obtain ⟨o1, o2, o3, o4⟩ := three_ver true (V.mk (ua) (ub) (uc) up) X Y hX2 hY2
    have C1 := hide (fun W hW => pseudo_any true (V.mk (ua) (ub) (uc) up) X I1 W hcc (by omega) (by omega) (by omega) (by decide) hW)
    have C2 := hide (fun W hW => pseudo_any true (V.mk (ua) (ub) (uc) up) Y I1 W hcc (by omega) (by omega) (by omega) (by decide) hW)
    have C3 := hide (fun W hW => pseudo_any true (V.mk (ua) (ub) (uc) up) X I2 W hcc (by omega) (by omega) (by omega) (by decide) hW)
    rw [pseudo_is _ _ _ _ hX2 id1] at C1
    rw [pseudo_is _ _ _ _ hY2 id1, o1] at C2
    rw [pseudo_is _ _ _ _ hX2 id2, o2] at C3
    have D12 := hide (fun (k : (pver true (V.mk (ua) (ub) (uc) up) X I1.data.toList).ok = true) W hW => cmp_any (pver true (V.mk (ua) (ub) (uc) up) X I1.data.toList) (pver true (V.mk (ua) (ub) (uc) up) Y I1.data.toList) W k (o1.trans k) hW)
    have D13 := hide (fun (k : (pver true (V.mk (ua) (ub) (uc) up) X I1.data.toList).ok = true) W hW => cmp_any (pver true (V.mk (ua) (ub) (uc) up) X I1.data.toList) (pver true (V.mk (ua) (ub) (uc) up) X I2.data.toList) W k (o2.trans k) hW)
    rw [o3] at D12
    rw [o4] at D13
    obtain ⟨d1, d2⟩ := cmp_lt (X : Int) (Y : Int)
    clear o1 o2 o3 o4 hz hcc hu
    generalize pver true (V.mk (ua) (ub) (uc) up) X I1.data.toList = P1 at *
    generalize pver true (V.mk (ua) (ub) (uc) up) Y I1.data.toList = P2 at *
    generalize pver true (V.mk (ua) (ub) (uc) up) X I2.data.toList = P3 at *
    generalize compareInt (X : Int) (Y : Int) = cm at *
    obtain ⟨-, c0, c1, c2, c3, -, -, -, -⟩ := V2.out
    by_cases hk : P1.ok = true
    · have D12' := hide (D12.out hk)
      have D13' := hide (D13.out hk)
      rw [if_pos hk] at C1 C2 C3
      clear D12 D13 hk
      obtain ⟨pa, pb, pc, pp⟩ := P1
      obtain ⟨qa, qb, qc, qp⟩ := P2
      obtain ⟨ra, rb, rc, rp⟩ := P3
      simp only [pret, Option.getD_some, Option.isSome_some] at C1 C2 C3
      go_wp2_with fail
      refine (C1.out _ (HE.out.later hB3)).mono ?_
      rintro e w5 ⟨rfl, b5⟩
      have ba5 : Below w5.heap.size w5 (w5.alloc (.cells #[.int .i64 pa, .int .i64 pb, .int .i64 pc, .string pp] 24)) := (Below.refl _ _).alloc (Nat.le_refl _) _
      have hB5 := step (step hB3 b5) ba5
      have V5 := hide ((V2.out.later b5).later ba5)
      have P5 := hide (VarAt.new w5 ⟨pa, pb, pc, pp⟩)
      obtain ⟨k5, x0, x1, x2, x3, -, -, -, -⟩ := V2.out.later b5
      have hne5 : ¬ w2.heap.size = w5.heap.size := by omega
      clear c0 c1 c2 c3 V2 hB3 C1
      go_wp2_with fail
      refine (C2.out _ (HE.out.later hB5)).mono ?_
      rintro e w6 ⟨rfl, b6⟩
      have ba6 : Below w6.heap.size w6 (w6.alloc (.cells #[.int .i64 qa, .int .i64 qb, .int .i64 qc, .string qp] 24)) := (Below.refl _ _).alloc (Nat.le_refl _) _
      have hB6 := step (step hB5 b6) ba6
      have V6 := hide ((V5.out.later b6).later ba6)
      have P6 := hide ((P5.out.later b6).later ba6)
      have Q6 := hide (VarAt.new w6 ⟨qa, qb, qc, qp⟩)
      clear x0 x1 x2 x3 k5 hne5 hB5 C2
      obtain ⟨k6, x0, x1, x2, x3, -, -, -, -⟩ := P5.out.later b6
      have hne6 : ¬ w5.heap.size = w6.heap.size := by omega
      clear V5 P5 ba5 ba6 b5 b6
      go_wp2_with fail
      refine (D12'.out _ (HE.out.later hB6)).mono ?_
      rintro e w7 ⟨rfl, b7⟩
      have hB7 := step hB6 b7
      have V7 := hide (V6.out.later b7)
      have P7 := hide (P6.out.later b7)
      clear x0 x1 x2 x3 k6 hne6 hB6 Q6 V6 P6 D12' b7
      obtain ⟨-, c0, c1, c2, c3, -, -, -, -⟩ := V7.out
      go_wp2_with fail
      refine (C3.out _ (HE.out.later hB7)).mono ?_
      rintro e w8 ⟨rfl, b8⟩
      have ba8 : Below w8.heap.size w8 (w8.alloc (.cells #[.int .i64 ra, .int .i64 rb, .int .i64 rc, .string rp] 24)) := (Below.refl _ _).alloc (Nat.le_refl _) _
      have hB8 := step (step hB7 b8) ba8
      clear c0 c1 c2 c3 V7 hB7
      obtain ⟨k8, x0, x1, x2, x3, -, -, -, -⟩ := P7.out.later b8
      have hne8 : ¬ w5.heap.size = w8.heap.size := by omega
      clear P7 b8 ba8
      go_wp2_with fail
      refine (D13'.out _ (HE.out.later hB8)).mono ?_
      rintro e w9 ⟨rfl, b9⟩
      go_wp2_with fail
      go_ret
      exact ⟨by first | rfl | simp [d1, d2], step hB8 b9⟩
    · rw [if_neg hk] at C1 C2
      have C1' : Hid (∀ W, Env W → Calls Tryz.prog 29 #[.bool true, val (V.mk (ua) (ub) (uc) up), .int .i64 (X : Int), .string I1] W fun e w' => e = .returned (.tuple #[ver 0 0 0 ⟨#[]⟩, .bool false]) ∧ Below W.heap.size W w') := C1
      have C2' : Hid (∀ W, Env W → Calls Tryz.prog 29 #[.bool true, val (V.mk (ua) (ub) (uc) up), .int .i64 (Y : Int), .string I1] W fun e w' => e = .returned (.tuple #[ver 0 0 0 ⟨#[]⟩, .bool false]) ∧ Below W.heap.size W w') := C2
      clear C1 C2 C3 D12 D13 hk
      go_wp2_with fail
      refine (C1'.out _ (HE.out.later hB3)).mono ?_
      rintro e w5 ⟨rfl, b5⟩
      have ba5 : Below w5.heap.size w5 (w5.alloc (.cells #[.int .i64 0, .int .i64 0, .int .i64 0, .string ⟨#[]⟩] 24)) := (Below.refl _ _).alloc (Nat.le_refl _) _
      have hB5 := step (step hB3 b5) ba5
      obtain ⟨k5, x0, x1, x2, x3, -, -, -, -⟩ := V2.out.later b5
      have hne5 : ¬ w2.heap.size = w5.heap.size := by omega
      clear c0 c1 c2 c3 V2 hB3
      go_wp2_with fail
      refine (C2'.out _ (HE.out.later hB5)).mono ?_
      rintro e w6 ⟨rfl, b6⟩
      have ba6 : Below w6.heap.size w6 (w6.alloc (.cells #[.int .i64 0, .int .i64 0, .int .i64 0, .string ⟨#[]⟩] 24)) := (Below.refl _ _).alloc (Nat.le_refl _) _
      have hB6 := step (step hB5 b6) ba6
      clear x0 x1 x2 x3 k5 hne5
      go_wp2_with fail
      go_ret
      exact ⟨by first | rfl | simp, hB6⟩

end Go.Proofs.YtiicikieemfcmaaGreatDoor.verTimes
