/-
  Contract of Make, with the very version that it answers.
-/
import Derived.Test.YtohnlhfgajipgaaGreatDoorG21

namespace Go.Proofs.YtohnlhfgajipgaaGreatDoor
set_option linter.unusedSimpArgs false
set_option linter.unusedVariables false
open Go.RowKit Go.Vr Go.Sort Go.Tx Go.Lib
attribute [local go_sem] setCellDrewN allocDrewN

/-- The words of a version of numbers. -/
def mLoop : Nat → Nat → Nat → ByteArray → ByteArray
  | 0, _, _, p => p
  | f + 1, J, k, p => if k < J % 4 then mLoop f (J / 13) (k + 1) ((if k = 0 then p else p ++ ⟨#[46]⟩) ++ mt.getD (J / 4 % 13) ⟨#[]⟩) else p
/-- The version of two numbers. -/
def mkV (n m : Int) : V where
  a := if (n % 1099511627776).toNat / 48 % 9 = 0 then 999999 - (((n % 1099511627776).toNat / 432 % 2 : Nat) : Int) else (((n % 1099511627776).toNat % 3 : Nat) : Int)
  b := if (n % 1099511627776).toNat / 48 % 9 = 1 then 999999 - (((n % 1099511627776).toNat / 432 % 2 : Nat) : Int) else (((n % 1099511627776).toNat / 3 % 4 : Nat) : Int)
  c := if (n % 1099511627776).toNat / 48 % 9 = 2 then 999999 - (((n % 1099511627776).toNat / 432 % 2 : Nat) : Int) else (((n % 1099511627776).toNat / 12 % 4 : Nat) : Int)
  p := if (mLoop 4 (m % 1099511627776).toNat 0 ⟨#[]⟩).size ≤ 40 then mLoop 4 (m % 1099511627776).toNat 0 ⟨#[]⟩ else ⟨#[114, 99, 46, 49]⟩
theorem mk_parts {n m : Int} {k x0 x1 x2 x3 x4 q1 q2 q3 q4 : Nat} (h : (k : Int) = n % 1099511627776) (h0 : x0 = k % 3) (a1 : q1 = k / 3) (h1 : x1 = q1 % 4) (a2 : q2 = k / 12) (h2 : x2 = q2 % 4) (a3 : q3 = k / 48) (h3 : x3 = q3 % 9) (a4 : q4 = k / 432) (h4 : x4 = q4 % 2) :
    (mkV n m).a = (if x3 = 0 then 999999 - (x4 : Int) else (x0 : Int)) ∧ (mkV n m).b = (if x3 = 1 then 999999 - (x4 : Int) else (x1 : Int)) ∧ (mkV n m).c = (if x3 = 2 then 999999 - (x4 : Int) else (x2 : Int)) := by
  have hk : (n % 1099511627776).toNat = k := by omega
  subst h0 a1 h1 a2 h2 a3 h3 a4 h4
  unfold mkV
  rw [hk]
  exact ⟨rfl, rfl, rfl⟩
theorem mk_eq {n m xa xb xc : Int} {p q : ByteArray} {j0 : Nat} (h : (mkV n m).a = xa ∧ (mkV n m).b = xb ∧ (mkV n m).c = xc) (hj : (j0 : Int) = m % 1099511627776) (hp : p = mLoop 4 j0 0 ⟨#[]⟩) (hq : q = if p.size ≤ 40 then p else ⟨#[114, 99, 46, 49]⟩) : V.mk xa xb xc q = mkV n m := by
  obtain ⟨rfl, rfl, rfl⟩ := h
  have hk : (m % 1099511627776).toNat = j0 := by omega
  have e : q = (mkV n m).p := by
    unfold mkV
    show q = if (mLoop 4 (m % 1099511627776).toNat 0 ⟨#[]⟩).size ≤ 40 then mLoop 4 (m % 1099511627776).toNat 0 ⟨#[]⟩ else ⟨#[114, 99, 46, 49]⟩
    rw [hk, ← hp, hq]
  rw [e]
theorem mLoop_step {k J r J4 x J13 : Nat} {p y : ByteArray} (hk : k ≤ 3) (hr : r = J % 4) (h : k < r) (h4 : J4 = J / 4) (hx : x = J4 % 13) (h13 : J13 = J / 13) (hy : mt.getD x ⟨#[]⟩ = y) : mLoop (4 - k) J k p = mLoop (4 - (k + 1)) J13 (k + 1) ((if k = 0 then p else p ++ ⟨#[46]⟩) ++ y) := by
  subst hr h4 hx h13 hy
  have e : 4 - k = (4 - (k + 1)) + 1 := by omega
  rw [e]
  show (if k < J % 4 then _ else p) = _
  rw [if_pos h]
theorem mLoop_stop {k J r : Nat} {p : ByteArray} (hk : k ≤ 3) (hr : r = J % 4) (h : ¬ k < r) : mLoop (4 - k) J k p = p := by
  subst hr
  have e : 4 - k = (4 - (k + 1)) + 1 := by omega
  rw [e]
  show (if k < J % 4 then _ else p) = p
  rw [if_neg h]
theorem quoE (k : Nat) (M : Int) (m : Nat) (hm : M = (m : Int)) (h : 1 ≤ m) (hk : k < 1099511627776) : ∃ d : Nat, Int.tdiv (k : Int) M = (d : Int) ∧ d < 1099511627776 ∧ IntKind.i64.wrap (d : Int) = d ∧ Hid (d = k / m) := by
  subst hm
  have h1 : Int.tdiv (k : Int) (m : Int) = (k : Int) / (m : Int) := Int.tdiv_eq_ediv_of_nonneg (by omega)
  have h3 : k / m ≤ k := Nat.div_le_self _ _
  have h4 : (k : Int) / (m : Int) = ((k / m : Nat) : Int) := by simp
  exact ⟨k / m, by rw [h1, h4], by omega, by clear h1 h4; generalize k / m = d at *; rw [IntKind.wrap_i64]; omega, hide rfl⟩
theorem remE (k : Nat) (M : Int) (m : Nat) (hm : M = (m : Int)) (h : 1 ≤ m) : ∃ d : Nat, Int.tmod (k : Int) M = (d : Int) ∧ (d : Int) < M ∧ Hid (d = k % m) := by
  subst hm
  have h1 : Int.tmod (k : Int) (m : Int) = (k : Int) % (m : Int) := Int.tmod_eq_emod_of_nonneg (by omega)
  have h4 : (k : Int) % (m : Int) = ((k % m : Nat) : Int) := by simp
  have h5 : k % m < m := Nat.mod_lt _ (by omega)
  exact ⟨k % m, by rw [h1, h4], by omega, hide rfl⟩

set_option maxHeartbeats 4000000 in
set_option maxRecDepth 100000 in
theorem make_is (n m : Int) (w : World) (h0 : -9223372036854775808 ≤ n ∧ n ≤ 9223372036854775807) (h1 : -9223372036854775808 ≤ m ∧ m ≤ 9223372036854775807) :
    Calls Tryz.prog 32 #[.int .i64 n, .int .i64 m] w fun e w' => e = .returned (val (mkV n m)) ∧ (mkV n m).ok = true ∧ Below w.heap.size w w' := by
  obtain ⟨n1, n2⟩ := h0
  obtain ⟨m1, m2⟩ := h1
  go_enter Tryz.func32, Tryz.ntmps32
  go_wp2_with fail
  refine (within_nat _ _ _ (by omega) (by omega) (by omega) (by omega)).mono ?_
  rintro e w1 ⟨k, rfl, hk, HKN, rfl⟩
  have hk2 : k < 1099511627776 := by omega
  obtain ⟨x0, e0, l0, Hx0⟩ := remE k 3 3 rfl (by omega)
  obtain ⟨q1, e1, l1, r1, Hq1⟩ := quoE k 3 3 rfl (by omega) hk2
  obtain ⟨x1, e2, l2, Hx1⟩ := remE q1 4 4 rfl (by omega)
  obtain ⟨q2, e3, l3, r2, Hq2⟩ := quoE k 12 12 rfl (by omega) hk2
  obtain ⟨x2, e4, l4, Hx2⟩ := remE q2 4 4 rfl (by omega)
  obtain ⟨q3, e5, l5, r3, Hq3⟩ := quoE k 48 48 rfl (by omega) hk2
  obtain ⟨x3, e6, l6, Hx3⟩ := remE q3 9 9 rfl (by omega)
  obtain ⟨q4, e7, l7, r4, Hq4⟩ := quoE k 432 432 rfl (by omega) hk2
  obtain ⟨x4, e8, l8, Hx4⟩ := remE q4 2 2 rfl (by omega)
  have r5 : IntKind.i64.wrap (999999 - (x4 : Int)) = 999999 - (x4 : Int) := by rw [IntKind.wrap_i64]; omega
  have HMP := hide (mk_parts (m := m) HKN.out Hx0.out Hq1.out Hx1.out Hq2.out Hx2.out Hq3.out Hx3.out Hq4.out Hx4.out)
  clear Hx0 Hx1 Hx2 Hx3 Hx4 Hq1 Hq2 Hq3 Hq4 HKN
  by_cases c0 : x3 = 0
  · have t0 : ((x3 : Int) == 0) = true := by simp; omega
    go_wp2_with fail
    have ba1 : Below w.heap.size w (w.alloc (.cells #[.int .i64 0, .int .i64 0, .int .i64 0, .string ⟨#[]⟩] 34)) := (Below.refl _ _).alloc (Nat.le_refl _) _
    have ba2 := ba1.alloc ba1.size (.cells #[.int .i64 (999999 - (x4 : Int)), .int .i64 ((x1 : Int)), .int .i64 ((x2 : Int)), .string ⟨#[]⟩] 34)
    have ba3 := ba2.alloc ba2.size mobj
    have V00 : VarAt (w.alloc (.cells #[.int .i64 0, .int .i64 0, .int .i64 0, .string ⟨#[]⟩] 34)) w.heap.size V.zero := VarAt.new w V.zero
    have V0 := ((V00.later ((Below.refl _ _).alloc (Nat.le_refl _) (.cells #[.int .i64 (999999 - (x4 : Int)), .int .i64 ((x1 : Int)), .int .i64 ((x2 : Int)), .string ⟨#[]⟩] 34))).later ((Below.refl _ _).alloc (Nat.le_refl _) mobj))
    have V1 := ((VarAt.new (w.alloc (.cells #[.int .i64 0, .int .i64 0, .int .i64 0, .string ⟨#[]⟩] 34)) ⟨999999 - (x4 : Int), (x1 : Int), (x2 : Int), ⟨#[]⟩⟩).later ((Below.refl _ _).alloc (Nat.le_refl _) mobj))
    have MR := m_row ((w.alloc (.cells #[.int .i64 0, .int .i64 0, .int .i64 0, .string ⟨#[]⟩] 34)).alloc (.cells #[.int .i64 (999999 - (x4 : Int)), .int .i64 ((x1 : Int)), .int .i64 ((x2 : Int)), .string ⟨#[]⟩] 34))
    have z1 : (w.alloc (.cells #[.int .i64 0, .int .i64 0, .int .i64 0, .string ⟨#[]⟩] 34)).heap.size = w.heap.size + 1 := by simp
    have z2 : ((w.alloc (.cells #[.int .i64 0, .int .i64 0, .int .i64 0, .string ⟨#[]⟩] 34)).alloc (.cells #[.int .i64 (999999 - (x4 : Int)), .int .i64 ((x1 : Int)), .int .i64 ((x2 : Int)), .string ⟨#[]⟩] 34)).heap.size = w.heap.size + 1 + 1 := by simp
    rw [z1] at V1
    rw [z2] at MR
    clear z1 z2 ba1 ba2 V00
    have pa : (0 : Int) ≤ 999999 - (x4 : Int) ∧ 999999 - (x4 : Int) ≤ 999999 := by omega
    have pb : (0 : Int) ≤ (x1 : Int) ∧ (x1 : Int) ≤ 999999 := by omega
    have pc : (0 : Int) ≤ (x2 : Int) ∧ (x2 : Int) ≤ 999999 := by omega
    generalize hw2 : ((w.alloc (.cells #[.int .i64 0, .int .i64 0, .int .i64 0, .string ⟨#[]⟩] 34)).alloc (.cells #[.int .i64 (999999 - (x4 : Int)), .int .i64 ((x1 : Int)), .int .i64 ((x2 : Int)), .string ⟨#[]⟩] 34)).alloc mobj = w2 at *
    clear hw2
    have HM : Hid ((mkV n m).a = 999999 - (x4 : Int) ∧ (mkV n m).b = (x1 : Int) ∧ (mkV n m).c = (x2 : Int)) := by
      have h := HMP.out
      rw [if_pos c0, if_neg (by omega : ¬ x3 = 1), if_neg (by omega : ¬ x3 = 2)] at h
      exact h
    clear HMP
    generalize hxa : 999999 - (x4 : Int) = xa at *
    generalize hxb : (x1 : Int) = xb at *
    generalize hxc : (x2 : Int) = xc at *
    clear hxa hxb hxc e0 l0 e1 l1 r1 e2 l2 e3 l3 r2 e4 l4 e5 l5 r3 e6 l6 e7 l7 r4 e8 l8 r5
    refine (within_nat _ _ _ (by omega) (by omega) (by omega) (by omega)).mono ?_
    rintro e w3 ⟨j0, rfl, hj0, HJN, rfl⟩
    go_wp2_with fail
    go_loopw [8, 9] (fun j i wr => ∃ J k : Nat, ∃ p : ByteArray, J < 1099511627776 ∧ k ≤ 3 ∧ j = .int .i64 J ∧ i = .int .i64 k ∧ G k p ∧ VarAt wr w.heap.size V.zero ∧ VarAt wr (w.heap.size + 1) ⟨xa, xb, xc, p⟩ ∧ MRow wr (w.heap.size + 1 + 1) ∧ Below w.heap.size w wr ∧ Hid (mLoop (4 - k) J k p = mLoop 4 j0 0 ⟨#[]⟩)) (fun _ i _ => 4 - (RowKit.intOf i).toNat)
    case atStart => exact ⟨j0, 0, ⟨#[]⟩, by omega, by omega, rfl, rfl, ⟨by decide, fun _ => rfl, fun h => absurd rfl h⟩, V0, V1, MR, ba3, hide rfl⟩
    case round =>
      obtain ⟨J, k, p, hJ, hk, rfl, rfl, hG, VZ, VM, MW, hB, HL⟩ := hrel
      clear V0 V1 MR ba3
      have HG := hide hG
      have hps : p.size ≤ 28 * k := hG.1
      clear hG
      have HVZ := hide VZ
      have HVM := hide VM
      have HMW := hide MW
      have HB := hide hB
      clear VZ VM MW hB
      obtain ⟨r, f0, g0, Hr⟩ := remE J 4 4 rfl (by omega)
      by_cases hlt : k < r
      · obtain ⟨J4, f1, g1, s1, HJ4⟩ := quoE J 4 4 rfl (by omega) hJ
        obtain ⟨x, f2, g2, Hx⟩ := remE J4 13 13 rfl (by omega)
        obtain ⟨J13, f3, g3, s3, HJ13⟩ := quoE J 13 13 rfl (by omega) hJ
        have hx : x < 13 := by omega
        have cx := HMW.out.2 x hx
        obtain ⟨t1, t2, t3⟩ := m_words x hx
        have T1 := hide t1
        have T2 := hide t2
        clear t1 t2
        generalize hy : mt.getD x ⟨#[]⟩ = y at *
        have HY := hide hy
        have HL2 := hide ((mLoop_step (p := p) hk Hr.out hlt HJ4.out Hx.out HJ13.out hy).symm.trans HL.out)
        clear hy
        have i1 : (0 : Int) ≤ (x : Int) := by omega
        have i2 : (x : Int) < 13 := by omega
        have dl : decide ((k : Int) < (r : Int)) = true := by simp; omega
        obtain ⟨lt, c0, c1, c2, c3, v0, v1, v2, v3⟩ := HVM.out
        by_cases hk0 : k = 0
        · subst hk0
          have n1 : ¬ 9223372036854775807 < p.size + y.size := by omega
          have dk : decide ((0 : Int) < ((0 : Nat) : Int)) = false := by simp
          have NG := hide (HG.out.first T1.out T2.out t3)
          go_wp2_with fail
          go_region
          go_wp2_with fail
          go_roundw
          case rel => exact ⟨J13, 1, p ++ y, g3, by omega, by go_num, by go_num, NG.out, (HVZ.out.far3 _ (by omega)).drew, (HVM.out.set3 _).drew, (HMW.out.set _ (by omega)).drew, (HB.out.setCell (by simp) _).drew, HL2⟩
          case measure => simp [RowKit.intOf]
        · have n1 : ¬ 9223372036854775807 < p.size + 1 := by omega
          rw [if_neg hk0] at HL2
          generalize hK : (k : Int) = K at *
          have dk : decide (0 < K) = true := by simp; omega
          have wK : IntKind.i64.wrap (K + 1) = K + 1 := by rw [IntKind.wrap_i64]; omega
          have HK := hide hK
          clear hK
          have NG := hide (HG.out.more hk0 T1.out T2.out t3)
          have HK0 := hide hk0
          have HPS := hide hps
          have HT3 := hide t3
          clear hk0 hps t3
          go_wp2_with fail
          have hps := HPS.out
          have t3 := HT3.out
          have V3 := hide (HVM.out.set3 (p ++ ⟨#[46]⟩))
          have Z3 := hide (HVZ.out.far3 (N := w.heap.size + 1) (o := 3) (.string (p ++ ⟨#[46]⟩)) (by omega))
          have M3 := hide (HMW.out.set (M := w.heap.size + 1) (o := 3) (.string (p ++ ⟨#[46]⟩)) (by omega))
          have B3 := hide (HB.out.setCell (p := ⟨w.heap.size + 1, 3, none⟩) (by simp) (.string (p ++ ⟨#[46]⟩)))
          have n2 : ¬ 9223372036854775807 < (p ++ ⟨#[46]⟩).size + y.size := by rw [ByteArray.size_append]; have : (ByteArray.mk #[46]).size = 1 := rfl; omega
          clear lt c0 c1 c2 c3 v0 v1 v2 v3 cx n1
          have cx := M3.out.2 x hx
          rw [HY.out] at cx
          obtain ⟨lt, c0, c1, c2, c3, v0, v1, v2, v3⟩ := V3.out
          generalize p ++ ⟨#[46]⟩ = p1 at *
          generalize wr.setCell ⟨w.heap.size + 1, 3, none⟩ (.string p1) = w4 at *
          go_region
          go_wp2_with fail
          go_roundw
          case rel => exact ⟨J13, k + 1, p1 ++ y, g3, by omega, by go_num, by rw [← HK.out]; simp, NG.out, (Z3.out.far3 _ (by omega)).drew, (V3.out.set3 _).drew, (M3.out.set _ (by omega)).drew, (B3.out.setCell (by simp) _).drew, HL2⟩
          case measure => have := HK.out; simp [RowKit.intOf]; omega
      · have dl : decide ((k : Int) < (r : Int)) = false := by simp; omega
        obtain ⟨lt, c0, c1, c2, c3, v0, v1, v2, v3⟩ := HVM.out
        obtain ⟨zt, z0, z1, z2, z3, y0, y1, y2, y3⟩ := HVZ.out
        by_cases hs : p.size ≤ 40
        · have ds : decide ((40 : Int) < (p.size : Int)) = false := by simp; omega
          have OK := hide (made_ok pa pb pc (HG.out.ok hs))
          have HVV := hide (mk_eq HM.out HJN.out ((mLoop_stop (p := p) hk Hr.out hlt).symm.trans HL.out) (if_pos hs).symm)
          go_wp2_with fail
          exact bodyPost_ret (v := val ⟨xa, xb, xc, p⟩) (by simp [results, Tryz.results32, go_sem, z0, z1, z2, z3]) rfl ⟨congrArg (fun v => Ending.returned (val v)) HVV.out, by rw [← HVV.out]; exact OK.out, (((HB.out.setCell (by simp) _).setCell (by simp) _).setCell (by simp) _).setCell (by simp) _⟩
        · have ds : decide ((40 : Int) < (p.size : Int)) = true := by simp; omega
          have OK := hide (made_ok (q := ⟨#[114, 99, 46, 49]⟩) pa pb pc (by decide +kernel))
          have HVV := hide (mk_eq HM.out HJN.out ((mLoop_stop (p := p) hk Hr.out hlt).symm.trans HL.out) (if_neg hs).symm)
          go_wp2_with fail
          exact bodyPost_ret (v := val ⟨xa, xb, xc, ⟨#[114, 99, 46, 49]⟩⟩) (by simp [results, Tryz.results32, go_sem, z0, z1, z2, z3]) rfl ⟨congrArg (fun v => Ending.returned (val v)) HVV.out, by rw [← HVV.out]; exact OK.out, ((((HB.out.setCell (by simp) _).setCell (by simp) _).setCell (by simp) _).setCell (by simp) _).setCell (by simp) _⟩
  have t0 : ((x3 : Int) == 0) = false := by simp; omega
  by_cases c1 : x3 = 1
  · have t1 : ((x3 : Int) == 1) = true := by simp; omega
    go_wp2_with fail
    have ba1 : Below w.heap.size w (w.alloc (.cells #[.int .i64 0, .int .i64 0, .int .i64 0, .string ⟨#[]⟩] 34)) := (Below.refl _ _).alloc (Nat.le_refl _) _
    have ba2 := ba1.alloc ba1.size (.cells #[.int .i64 ((x0 : Int)), .int .i64 (999999 - (x4 : Int)), .int .i64 ((x2 : Int)), .string ⟨#[]⟩] 34)
    have ba3 := ba2.alloc ba2.size mobj
    have V00 : VarAt (w.alloc (.cells #[.int .i64 0, .int .i64 0, .int .i64 0, .string ⟨#[]⟩] 34)) w.heap.size V.zero := VarAt.new w V.zero
    have V0 := ((V00.later ((Below.refl _ _).alloc (Nat.le_refl _) (.cells #[.int .i64 ((x0 : Int)), .int .i64 (999999 - (x4 : Int)), .int .i64 ((x2 : Int)), .string ⟨#[]⟩] 34))).later ((Below.refl _ _).alloc (Nat.le_refl _) mobj))
    have V1 := ((VarAt.new (w.alloc (.cells #[.int .i64 0, .int .i64 0, .int .i64 0, .string ⟨#[]⟩] 34)) ⟨(x0 : Int), 999999 - (x4 : Int), (x2 : Int), ⟨#[]⟩⟩).later ((Below.refl _ _).alloc (Nat.le_refl _) mobj))
    have MR := m_row ((w.alloc (.cells #[.int .i64 0, .int .i64 0, .int .i64 0, .string ⟨#[]⟩] 34)).alloc (.cells #[.int .i64 ((x0 : Int)), .int .i64 (999999 - (x4 : Int)), .int .i64 ((x2 : Int)), .string ⟨#[]⟩] 34))
    have z1 : (w.alloc (.cells #[.int .i64 0, .int .i64 0, .int .i64 0, .string ⟨#[]⟩] 34)).heap.size = w.heap.size + 1 := by simp
    have z2 : ((w.alloc (.cells #[.int .i64 0, .int .i64 0, .int .i64 0, .string ⟨#[]⟩] 34)).alloc (.cells #[.int .i64 ((x0 : Int)), .int .i64 (999999 - (x4 : Int)), .int .i64 ((x2 : Int)), .string ⟨#[]⟩] 34)).heap.size = w.heap.size + 1 + 1 := by simp
    rw [z1] at V1
    rw [z2] at MR
    clear z1 z2 ba1 ba2 V00
    have pa : (0 : Int) ≤ (x0 : Int) ∧ (x0 : Int) ≤ 999999 := by omega
    have pb : (0 : Int) ≤ 999999 - (x4 : Int) ∧ 999999 - (x4 : Int) ≤ 999999 := by omega
    have pc : (0 : Int) ≤ (x2 : Int) ∧ (x2 : Int) ≤ 999999 := by omega
    generalize hw2 : ((w.alloc (.cells #[.int .i64 0, .int .i64 0, .int .i64 0, .string ⟨#[]⟩] 34)).alloc (.cells #[.int .i64 ((x0 : Int)), .int .i64 (999999 - (x4 : Int)), .int .i64 ((x2 : Int)), .string ⟨#[]⟩] 34)).alloc mobj = w2 at *
    clear hw2
    have HM : Hid ((mkV n m).a = (x0 : Int) ∧ (mkV n m).b = 999999 - (x4 : Int) ∧ (mkV n m).c = (x2 : Int)) := by
      have h := HMP.out
      rw [if_neg c0, if_pos c1, if_neg (by omega : ¬ x3 = 2)] at h
      exact h
    clear HMP
    generalize hxa : (x0 : Int) = xa at *
    generalize hxb : 999999 - (x4 : Int) = xb at *
    generalize hxc : (x2 : Int) = xc at *
    clear hxa hxb hxc e0 l0 e1 l1 r1 e2 l2 e3 l3 r2 e4 l4 e5 l5 r3 e6 l6 e7 l7 r4 e8 l8 r5
    refine (within_nat _ _ _ (by omega) (by omega) (by omega) (by omega)).mono ?_
    rintro e w3 ⟨j0, rfl, hj0, HJN, rfl⟩
    go_wp2_with fail
    go_loopw [8, 9] (fun j i wr => ∃ J k : Nat, ∃ p : ByteArray, J < 1099511627776 ∧ k ≤ 3 ∧ j = .int .i64 J ∧ i = .int .i64 k ∧ G k p ∧ VarAt wr w.heap.size V.zero ∧ VarAt wr (w.heap.size + 1) ⟨xa, xb, xc, p⟩ ∧ MRow wr (w.heap.size + 1 + 1) ∧ Below w.heap.size w wr ∧ Hid (mLoop (4 - k) J k p = mLoop 4 j0 0 ⟨#[]⟩)) (fun _ i _ => 4 - (RowKit.intOf i).toNat)
    case atStart => exact ⟨j0, 0, ⟨#[]⟩, by omega, by omega, rfl, rfl, ⟨by decide, fun _ => rfl, fun h => absurd rfl h⟩, V0, V1, MR, ba3, hide rfl⟩
    case round =>
      obtain ⟨J, k, p, hJ, hk, rfl, rfl, hG, VZ, VM, MW, hB, HL⟩ := hrel
      clear V0 V1 MR ba3
      have HG := hide hG
      have hps : p.size ≤ 28 * k := hG.1
      clear hG
      have HVZ := hide VZ
      have HVM := hide VM
      have HMW := hide MW
      have HB := hide hB
      clear VZ VM MW hB
      obtain ⟨r, f0, g0, Hr⟩ := remE J 4 4 rfl (by omega)
      by_cases hlt : k < r
      · obtain ⟨J4, f1, g1, s1, HJ4⟩ := quoE J 4 4 rfl (by omega) hJ
        obtain ⟨x, f2, g2, Hx⟩ := remE J4 13 13 rfl (by omega)
        obtain ⟨J13, f3, g3, s3, HJ13⟩ := quoE J 13 13 rfl (by omega) hJ
        have hx : x < 13 := by omega
        have cx := HMW.out.2 x hx
        obtain ⟨t1, t2, t3⟩ := m_words x hx
        have T1 := hide t1
        have T2 := hide t2
        clear t1 t2
        generalize hy : mt.getD x ⟨#[]⟩ = y at *
        have HY := hide hy
        have HL2 := hide ((mLoop_step (p := p) hk Hr.out hlt HJ4.out Hx.out HJ13.out hy).symm.trans HL.out)
        clear hy
        have i1 : (0 : Int) ≤ (x : Int) := by omega
        have i2 : (x : Int) < 13 := by omega
        have dl : decide ((k : Int) < (r : Int)) = true := by simp; omega
        obtain ⟨lt, c0, c1, c2, c3, v0, v1, v2, v3⟩ := HVM.out
        by_cases hk0 : k = 0
        · subst hk0
          have n1 : ¬ 9223372036854775807 < p.size + y.size := by omega
          have dk : decide ((0 : Int) < ((0 : Nat) : Int)) = false := by simp
          have NG := hide (HG.out.first T1.out T2.out t3)
          go_wp2_with fail
          go_region
          go_wp2_with fail
          go_roundw
          case rel => exact ⟨J13, 1, p ++ y, g3, by omega, by go_num, by go_num, NG.out, (HVZ.out.far3 _ (by omega)).drew, (HVM.out.set3 _).drew, (HMW.out.set _ (by omega)).drew, (HB.out.setCell (by simp) _).drew, HL2⟩
          case measure => simp [RowKit.intOf]
        · have n1 : ¬ 9223372036854775807 < p.size + 1 := by omega
          rw [if_neg hk0] at HL2
          generalize hK : (k : Int) = K at *
          have dk : decide (0 < K) = true := by simp; omega
          have wK : IntKind.i64.wrap (K + 1) = K + 1 := by rw [IntKind.wrap_i64]; omega
          have HK := hide hK
          clear hK
          have NG := hide (HG.out.more hk0 T1.out T2.out t3)
          have HK0 := hide hk0
          have HPS := hide hps
          have HT3 := hide t3
          clear hk0 hps t3
          go_wp2_with fail
          have hps := HPS.out
          have t3 := HT3.out
          have V3 := hide (HVM.out.set3 (p ++ ⟨#[46]⟩))
          have Z3 := hide (HVZ.out.far3 (N := w.heap.size + 1) (o := 3) (.string (p ++ ⟨#[46]⟩)) (by omega))
          have M3 := hide (HMW.out.set (M := w.heap.size + 1) (o := 3) (.string (p ++ ⟨#[46]⟩)) (by omega))
          have B3 := hide (HB.out.setCell (p := ⟨w.heap.size + 1, 3, none⟩) (by simp) (.string (p ++ ⟨#[46]⟩)))
          have n2 : ¬ 9223372036854775807 < (p ++ ⟨#[46]⟩).size + y.size := by rw [ByteArray.size_append]; have : (ByteArray.mk #[46]).size = 1 := rfl; omega
          clear lt c0 c1 c2 c3 v0 v1 v2 v3 cx n1
          have cx := M3.out.2 x hx
          rw [HY.out] at cx
          obtain ⟨lt, c0, c1, c2, c3, v0, v1, v2, v3⟩ := V3.out
          generalize p ++ ⟨#[46]⟩ = p1 at *
          generalize wr.setCell ⟨w.heap.size + 1, 3, none⟩ (.string p1) = w4 at *
          go_region
          go_wp2_with fail
          go_roundw
          case rel => exact ⟨J13, k + 1, p1 ++ y, g3, by omega, by go_num, by rw [← HK.out]; simp, NG.out, (Z3.out.far3 _ (by omega)).drew, (V3.out.set3 _).drew, (M3.out.set _ (by omega)).drew, (B3.out.setCell (by simp) _).drew, HL2⟩
          case measure => have := HK.out; simp [RowKit.intOf]; omega
      · have dl : decide ((k : Int) < (r : Int)) = false := by simp; omega
        obtain ⟨lt, c0, c1, c2, c3, v0, v1, v2, v3⟩ := HVM.out
        obtain ⟨zt, z0, z1, z2, z3, y0, y1, y2, y3⟩ := HVZ.out
        by_cases hs : p.size ≤ 40
        · have ds : decide ((40 : Int) < (p.size : Int)) = false := by simp; omega
          have OK := hide (made_ok pa pb pc (HG.out.ok hs))
          have HVV := hide (mk_eq HM.out HJN.out ((mLoop_stop (p := p) hk Hr.out hlt).symm.trans HL.out) (if_pos hs).symm)
          go_wp2_with fail
          exact bodyPost_ret (v := val ⟨xa, xb, xc, p⟩) (by simp [results, Tryz.results32, go_sem, z0, z1, z2, z3]) rfl ⟨congrArg (fun v => Ending.returned (val v)) HVV.out, by rw [← HVV.out]; exact OK.out, (((HB.out.setCell (by simp) _).setCell (by simp) _).setCell (by simp) _).setCell (by simp) _⟩
        · have ds : decide ((40 : Int) < (p.size : Int)) = true := by simp; omega
          have OK := hide (made_ok (q := ⟨#[114, 99, 46, 49]⟩) pa pb pc (by decide +kernel))
          have HVV := hide (mk_eq HM.out HJN.out ((mLoop_stop (p := p) hk Hr.out hlt).symm.trans HL.out) (if_neg hs).symm)
          go_wp2_with fail
          exact bodyPost_ret (v := val ⟨xa, xb, xc, ⟨#[114, 99, 46, 49]⟩⟩) (by simp [results, Tryz.results32, go_sem, z0, z1, z2, z3]) rfl ⟨congrArg (fun v => Ending.returned (val v)) HVV.out, by rw [← HVV.out]; exact OK.out, ((((HB.out.setCell (by simp) _).setCell (by simp) _).setCell (by simp) _).setCell (by simp) _).setCell (by simp) _⟩
  have t1 : ((x3 : Int) == 1) = false := by simp; omega
  by_cases c2 : x3 = 2
  · have t2 : ((x3 : Int) == 2) = true := by simp; omega
    go_wp2_with fail
    have ba1 : Below w.heap.size w (w.alloc (.cells #[.int .i64 0, .int .i64 0, .int .i64 0, .string ⟨#[]⟩] 34)) := (Below.refl _ _).alloc (Nat.le_refl _) _
    have ba2 := ba1.alloc ba1.size (.cells #[.int .i64 ((x0 : Int)), .int .i64 ((x1 : Int)), .int .i64 (999999 - (x4 : Int)), .string ⟨#[]⟩] 34)
    have ba3 := ba2.alloc ba2.size mobj
    have V00 : VarAt (w.alloc (.cells #[.int .i64 0, .int .i64 0, .int .i64 0, .string ⟨#[]⟩] 34)) w.heap.size V.zero := VarAt.new w V.zero
    have V0 := ((V00.later ((Below.refl _ _).alloc (Nat.le_refl _) (.cells #[.int .i64 ((x0 : Int)), .int .i64 ((x1 : Int)), .int .i64 (999999 - (x4 : Int)), .string ⟨#[]⟩] 34))).later ((Below.refl _ _).alloc (Nat.le_refl _) mobj))
    have V1 := ((VarAt.new (w.alloc (.cells #[.int .i64 0, .int .i64 0, .int .i64 0, .string ⟨#[]⟩] 34)) ⟨(x0 : Int), (x1 : Int), 999999 - (x4 : Int), ⟨#[]⟩⟩).later ((Below.refl _ _).alloc (Nat.le_refl _) mobj))
    have MR := m_row ((w.alloc (.cells #[.int .i64 0, .int .i64 0, .int .i64 0, .string ⟨#[]⟩] 34)).alloc (.cells #[.int .i64 ((x0 : Int)), .int .i64 ((x1 : Int)), .int .i64 (999999 - (x4 : Int)), .string ⟨#[]⟩] 34))
    have z1 : (w.alloc (.cells #[.int .i64 0, .int .i64 0, .int .i64 0, .string ⟨#[]⟩] 34)).heap.size = w.heap.size + 1 := by simp
    have z2 : ((w.alloc (.cells #[.int .i64 0, .int .i64 0, .int .i64 0, .string ⟨#[]⟩] 34)).alloc (.cells #[.int .i64 ((x0 : Int)), .int .i64 ((x1 : Int)), .int .i64 (999999 - (x4 : Int)), .string ⟨#[]⟩] 34)).heap.size = w.heap.size + 1 + 1 := by simp
    rw [z1] at V1
    rw [z2] at MR
    clear z1 z2 ba1 ba2 V00
    have pa : (0 : Int) ≤ (x0 : Int) ∧ (x0 : Int) ≤ 999999 := by omega
    have pb : (0 : Int) ≤ (x1 : Int) ∧ (x1 : Int) ≤ 999999 := by omega
    have pc : (0 : Int) ≤ 999999 - (x4 : Int) ∧ 999999 - (x4 : Int) ≤ 999999 := by omega
    generalize hw2 : ((w.alloc (.cells #[.int .i64 0, .int .i64 0, .int .i64 0, .string ⟨#[]⟩] 34)).alloc (.cells #[.int .i64 ((x0 : Int)), .int .i64 ((x1 : Int)), .int .i64 (999999 - (x4 : Int)), .string ⟨#[]⟩] 34)).alloc mobj = w2 at *
    clear hw2
    have HM : Hid ((mkV n m).a = (x0 : Int) ∧ (mkV n m).b = (x1 : Int) ∧ (mkV n m).c = 999999 - (x4 : Int)) := by
      have h := HMP.out
      rw [if_neg c0, if_neg c1, if_pos c2] at h
      exact h
    clear HMP
    generalize hxa : (x0 : Int) = xa at *
    generalize hxb : (x1 : Int) = xb at *
    generalize hxc : 999999 - (x4 : Int) = xc at *
    clear hxa hxb hxc e0 l0 e1 l1 r1 e2 l2 e3 l3 r2 e4 l4 e5 l5 r3 e6 l6 e7 l7 r4 e8 l8 r5
    refine (within_nat _ _ _ (by omega) (by omega) (by omega) (by omega)).mono ?_
    rintro e w3 ⟨j0, rfl, hj0, HJN, rfl⟩
    go_wp2_with fail
    go_loopw [8, 9] (fun j i wr => ∃ J k : Nat, ∃ p : ByteArray, J < 1099511627776 ∧ k ≤ 3 ∧ j = .int .i64 J ∧ i = .int .i64 k ∧ G k p ∧ VarAt wr w.heap.size V.zero ∧ VarAt wr (w.heap.size + 1) ⟨xa, xb, xc, p⟩ ∧ MRow wr (w.heap.size + 1 + 1) ∧ Below w.heap.size w wr ∧ Hid (mLoop (4 - k) J k p = mLoop 4 j0 0 ⟨#[]⟩)) (fun _ i _ => 4 - (RowKit.intOf i).toNat)
    case atStart => exact ⟨j0, 0, ⟨#[]⟩, by omega, by omega, rfl, rfl, ⟨by decide, fun _ => rfl, fun h => absurd rfl h⟩, V0, V1, MR, ba3, hide rfl⟩
    case round =>
      obtain ⟨J, k, p, hJ, hk, rfl, rfl, hG, VZ, VM, MW, hB, HL⟩ := hrel
      clear V0 V1 MR ba3
      have HG := hide hG
      have hps : p.size ≤ 28 * k := hG.1
      clear hG
      have HVZ := hide VZ
      have HVM := hide VM
      have HMW := hide MW
      have HB := hide hB
      clear VZ VM MW hB
      obtain ⟨r, f0, g0, Hr⟩ := remE J 4 4 rfl (by omega)
      by_cases hlt : k < r
      · obtain ⟨J4, f1, g1, s1, HJ4⟩ := quoE J 4 4 rfl (by omega) hJ
        obtain ⟨x, f2, g2, Hx⟩ := remE J4 13 13 rfl (by omega)
        obtain ⟨J13, f3, g3, s3, HJ13⟩ := quoE J 13 13 rfl (by omega) hJ
        have hx : x < 13 := by omega
        have cx := HMW.out.2 x hx
        obtain ⟨t1, t2, t3⟩ := m_words x hx
        have T1 := hide t1
        have T2 := hide t2
        clear t1 t2
        generalize hy : mt.getD x ⟨#[]⟩ = y at *
        have HY := hide hy
        have HL2 := hide ((mLoop_step (p := p) hk Hr.out hlt HJ4.out Hx.out HJ13.out hy).symm.trans HL.out)
        clear hy
        have i1 : (0 : Int) ≤ (x : Int) := by omega
        have i2 : (x : Int) < 13 := by omega
        have dl : decide ((k : Int) < (r : Int)) = true := by simp; omega
        obtain ⟨lt, c0, c1, c2, c3, v0, v1, v2, v3⟩ := HVM.out
        by_cases hk0 : k = 0
        · subst hk0
          have n1 : ¬ 9223372036854775807 < p.size + y.size := by omega
          have dk : decide ((0 : Int) < ((0 : Nat) : Int)) = false := by simp
          have NG := hide (HG.out.first T1.out T2.out t3)
          go_wp2_with fail
          go_region
          go_wp2_with fail
          go_roundw
          case rel => exact ⟨J13, 1, p ++ y, g3, by omega, by go_num, by go_num, NG.out, (HVZ.out.far3 _ (by omega)).drew, (HVM.out.set3 _).drew, (HMW.out.set _ (by omega)).drew, (HB.out.setCell (by simp) _).drew, HL2⟩
          case measure => simp [RowKit.intOf]
        · have n1 : ¬ 9223372036854775807 < p.size + 1 := by omega
          rw [if_neg hk0] at HL2
          generalize hK : (k : Int) = K at *
          have dk : decide (0 < K) = true := by simp; omega
          have wK : IntKind.i64.wrap (K + 1) = K + 1 := by rw [IntKind.wrap_i64]; omega
          have HK := hide hK
          clear hK
          have NG := hide (HG.out.more hk0 T1.out T2.out t3)
          have HK0 := hide hk0
          have HPS := hide hps
          have HT3 := hide t3
          clear hk0 hps t3
          go_wp2_with fail
          have hps := HPS.out
          have t3 := HT3.out
          have V3 := hide (HVM.out.set3 (p ++ ⟨#[46]⟩))
          have Z3 := hide (HVZ.out.far3 (N := w.heap.size + 1) (o := 3) (.string (p ++ ⟨#[46]⟩)) (by omega))
          have M3 := hide (HMW.out.set (M := w.heap.size + 1) (o := 3) (.string (p ++ ⟨#[46]⟩)) (by omega))
          have B3 := hide (HB.out.setCell (p := ⟨w.heap.size + 1, 3, none⟩) (by simp) (.string (p ++ ⟨#[46]⟩)))
          have n2 : ¬ 9223372036854775807 < (p ++ ⟨#[46]⟩).size + y.size := by rw [ByteArray.size_append]; have : (ByteArray.mk #[46]).size = 1 := rfl; omega
          clear lt c0 c1 c2 c3 v0 v1 v2 v3 cx n1
          have cx := M3.out.2 x hx
          rw [HY.out] at cx
          obtain ⟨lt, c0, c1, c2, c3, v0, v1, v2, v3⟩ := V3.out
          generalize p ++ ⟨#[46]⟩ = p1 at *
          generalize wr.setCell ⟨w.heap.size + 1, 3, none⟩ (.string p1) = w4 at *
          go_region
          go_wp2_with fail
          go_roundw
          case rel => exact ⟨J13, k + 1, p1 ++ y, g3, by omega, by go_num, by rw [← HK.out]; simp, NG.out, (Z3.out.far3 _ (by omega)).drew, (V3.out.set3 _).drew, (M3.out.set _ (by omega)).drew, (B3.out.setCell (by simp) _).drew, HL2⟩
          case measure => have := HK.out; simp [RowKit.intOf]; omega
      · have dl : decide ((k : Int) < (r : Int)) = false := by simp; omega
        obtain ⟨lt, c0, c1, c2, c3, v0, v1, v2, v3⟩ := HVM.out
        obtain ⟨zt, z0, z1, z2, z3, y0, y1, y2, y3⟩ := HVZ.out
        by_cases hs : p.size ≤ 40
        · have ds : decide ((40 : Int) < (p.size : Int)) = false := by simp; omega
          have OK := hide (made_ok pa pb pc (HG.out.ok hs))
          have HVV := hide (mk_eq HM.out HJN.out ((mLoop_stop (p := p) hk Hr.out hlt).symm.trans HL.out) (if_pos hs).symm)
          go_wp2_with fail
          exact bodyPost_ret (v := val ⟨xa, xb, xc, p⟩) (by simp [results, Tryz.results32, go_sem, z0, z1, z2, z3]) rfl ⟨congrArg (fun v => Ending.returned (val v)) HVV.out, by rw [← HVV.out]; exact OK.out, (((HB.out.setCell (by simp) _).setCell (by simp) _).setCell (by simp) _).setCell (by simp) _⟩
        · have ds : decide ((40 : Int) < (p.size : Int)) = true := by simp; omega
          have OK := hide (made_ok (q := ⟨#[114, 99, 46, 49]⟩) pa pb pc (by decide +kernel))
          have HVV := hide (mk_eq HM.out HJN.out ((mLoop_stop (p := p) hk Hr.out hlt).symm.trans HL.out) (if_neg hs).symm)
          go_wp2_with fail
          exact bodyPost_ret (v := val ⟨xa, xb, xc, ⟨#[114, 99, 46, 49]⟩⟩) (by simp [results, Tryz.results32, go_sem, z0, z1, z2, z3]) rfl ⟨congrArg (fun v => Ending.returned (val v)) HVV.out, by rw [← HVV.out]; exact OK.out, ((((HB.out.setCell (by simp) _).setCell (by simp) _).setCell (by simp) _).setCell (by simp) _).setCell (by simp) _⟩
  · have t2 : ((x3 : Int) == 2) = false := by simp; omega
    go_wp2_with fail
    have ba1 : Below w.heap.size w (w.alloc (.cells #[.int .i64 0, .int .i64 0, .int .i64 0, .string ⟨#[]⟩] 34)) := (Below.refl _ _).alloc (Nat.le_refl _) _
    have ba2 := ba1.alloc ba1.size (.cells #[.int .i64 ((x0 : Int)), .int .i64 ((x1 : Int)), .int .i64 ((x2 : Int)), .string ⟨#[]⟩] 34)
    have ba3 := ba2.alloc ba2.size mobj
    have V00 : VarAt (w.alloc (.cells #[.int .i64 0, .int .i64 0, .int .i64 0, .string ⟨#[]⟩] 34)) w.heap.size V.zero := VarAt.new w V.zero
    have V0 := ((V00.later ((Below.refl _ _).alloc (Nat.le_refl _) (.cells #[.int .i64 ((x0 : Int)), .int .i64 ((x1 : Int)), .int .i64 ((x2 : Int)), .string ⟨#[]⟩] 34))).later ((Below.refl _ _).alloc (Nat.le_refl _) mobj))
    have V1 := ((VarAt.new (w.alloc (.cells #[.int .i64 0, .int .i64 0, .int .i64 0, .string ⟨#[]⟩] 34)) ⟨(x0 : Int), (x1 : Int), (x2 : Int), ⟨#[]⟩⟩).later ((Below.refl _ _).alloc (Nat.le_refl _) mobj))
    have MR := m_row ((w.alloc (.cells #[.int .i64 0, .int .i64 0, .int .i64 0, .string ⟨#[]⟩] 34)).alloc (.cells #[.int .i64 ((x0 : Int)), .int .i64 ((x1 : Int)), .int .i64 ((x2 : Int)), .string ⟨#[]⟩] 34))
    have z1 : (w.alloc (.cells #[.int .i64 0, .int .i64 0, .int .i64 0, .string ⟨#[]⟩] 34)).heap.size = w.heap.size + 1 := by simp
    have z2 : ((w.alloc (.cells #[.int .i64 0, .int .i64 0, .int .i64 0, .string ⟨#[]⟩] 34)).alloc (.cells #[.int .i64 ((x0 : Int)), .int .i64 ((x1 : Int)), .int .i64 ((x2 : Int)), .string ⟨#[]⟩] 34)).heap.size = w.heap.size + 1 + 1 := by simp
    rw [z1] at V1
    rw [z2] at MR
    clear z1 z2 ba1 ba2 V00
    have pa : (0 : Int) ≤ (x0 : Int) ∧ (x0 : Int) ≤ 999999 := by omega
    have pb : (0 : Int) ≤ (x1 : Int) ∧ (x1 : Int) ≤ 999999 := by omega
    have pc : (0 : Int) ≤ (x2 : Int) ∧ (x2 : Int) ≤ 999999 := by omega
    generalize hw2 : ((w.alloc (.cells #[.int .i64 0, .int .i64 0, .int .i64 0, .string ⟨#[]⟩] 34)).alloc (.cells #[.int .i64 ((x0 : Int)), .int .i64 ((x1 : Int)), .int .i64 ((x2 : Int)), .string ⟨#[]⟩] 34)).alloc mobj = w2 at *
    clear hw2
    have HM : Hid ((mkV n m).a = (x0 : Int) ∧ (mkV n m).b = (x1 : Int) ∧ (mkV n m).c = (x2 : Int)) := by
      have h := HMP.out
      rw [if_neg c0, if_neg c1, if_neg c2] at h
      exact h
    clear HMP
    generalize hxa : (x0 : Int) = xa at *
    generalize hxb : (x1 : Int) = xb at *
    generalize hxc : (x2 : Int) = xc at *
    clear hxa hxb hxc e0 l0 e1 l1 r1 e2 l2 e3 l3 r2 e4 l4 e5 l5 r3 e6 l6 e7 l7 r4 e8 l8 r5
    refine (within_nat _ _ _ (by omega) (by omega) (by omega) (by omega)).mono ?_
    rintro e w3 ⟨j0, rfl, hj0, HJN, rfl⟩
    go_wp2_with fail
    go_loopw [8, 9] (fun j i wr => ∃ J k : Nat, ∃ p : ByteArray, J < 1099511627776 ∧ k ≤ 3 ∧ j = .int .i64 J ∧ i = .int .i64 k ∧ G k p ∧ VarAt wr w.heap.size V.zero ∧ VarAt wr (w.heap.size + 1) ⟨xa, xb, xc, p⟩ ∧ MRow wr (w.heap.size + 1 + 1) ∧ Below w.heap.size w wr ∧ Hid (mLoop (4 - k) J k p = mLoop 4 j0 0 ⟨#[]⟩)) (fun _ i _ => 4 - (RowKit.intOf i).toNat)
    case atStart => exact ⟨j0, 0, ⟨#[]⟩, by omega, by omega, rfl, rfl, ⟨by decide, fun _ => rfl, fun h => absurd rfl h⟩, V0, V1, MR, ba3, hide rfl⟩
    case round =>
      obtain ⟨J, k, p, hJ, hk, rfl, rfl, hG, VZ, VM, MW, hB, HL⟩ := hrel
      clear V0 V1 MR ba3
      have HG := hide hG
      have hps : p.size ≤ 28 * k := hG.1
      clear hG
      have HVZ := hide VZ
      have HVM := hide VM
      have HMW := hide MW
      have HB := hide hB
      clear VZ VM MW hB
      obtain ⟨r, f0, g0, Hr⟩ := remE J 4 4 rfl (by omega)
      by_cases hlt : k < r
      · obtain ⟨J4, f1, g1, s1, HJ4⟩ := quoE J 4 4 rfl (by omega) hJ
        obtain ⟨x, f2, g2, Hx⟩ := remE J4 13 13 rfl (by omega)
        obtain ⟨J13, f3, g3, s3, HJ13⟩ := quoE J 13 13 rfl (by omega) hJ
        have hx : x < 13 := by omega
        have cx := HMW.out.2 x hx
        obtain ⟨t1, t2, t3⟩ := m_words x hx
        have T1 := hide t1
        have T2 := hide t2
        clear t1 t2
        generalize hy : mt.getD x ⟨#[]⟩ = y at *
        have HY := hide hy
        have HL2 := hide ((mLoop_step (p := p) hk Hr.out hlt HJ4.out Hx.out HJ13.out hy).symm.trans HL.out)
        clear hy
        have i1 : (0 : Int) ≤ (x : Int) := by omega
        have i2 : (x : Int) < 13 := by omega
        have dl : decide ((k : Int) < (r : Int)) = true := by simp; omega
        obtain ⟨lt, c0, c1, c2, c3, v0, v1, v2, v3⟩ := HVM.out
        by_cases hk0 : k = 0
        · subst hk0
          have n1 : ¬ 9223372036854775807 < p.size + y.size := by omega
          have dk : decide ((0 : Int) < ((0 : Nat) : Int)) = false := by simp
          have NG := hide (HG.out.first T1.out T2.out t3)
          go_wp2_with fail
          go_region
          go_wp2_with fail
          go_roundw
          case rel => exact ⟨J13, 1, p ++ y, g3, by omega, by go_num, by go_num, NG.out, (HVZ.out.far3 _ (by omega)).drew, (HVM.out.set3 _).drew, (HMW.out.set _ (by omega)).drew, (HB.out.setCell (by simp) _).drew, HL2⟩
          case measure => simp [RowKit.intOf]
        · have n1 : ¬ 9223372036854775807 < p.size + 1 := by omega
          rw [if_neg hk0] at HL2
          generalize hK : (k : Int) = K at *
          have dk : decide (0 < K) = true := by simp; omega
          have wK : IntKind.i64.wrap (K + 1) = K + 1 := by rw [IntKind.wrap_i64]; omega
          have HK := hide hK
          clear hK
          have NG := hide (HG.out.more hk0 T1.out T2.out t3)
          have HK0 := hide hk0
          have HPS := hide hps
          have HT3 := hide t3
          clear hk0 hps t3
          go_wp2_with fail
          have hps := HPS.out
          have t3 := HT3.out
          have V3 := hide (HVM.out.set3 (p ++ ⟨#[46]⟩))
          have Z3 := hide (HVZ.out.far3 (N := w.heap.size + 1) (o := 3) (.string (p ++ ⟨#[46]⟩)) (by omega))
          have M3 := hide (HMW.out.set (M := w.heap.size + 1) (o := 3) (.string (p ++ ⟨#[46]⟩)) (by omega))
          have B3 := hide (HB.out.setCell (p := ⟨w.heap.size + 1, 3, none⟩) (by simp) (.string (p ++ ⟨#[46]⟩)))
          have n2 : ¬ 9223372036854775807 < (p ++ ⟨#[46]⟩).size + y.size := by rw [ByteArray.size_append]; have : (ByteArray.mk #[46]).size = 1 := rfl; omega
          clear lt c0 c1 c2 c3 v0 v1 v2 v3 cx n1
          have cx := M3.out.2 x hx
          rw [HY.out] at cx
          obtain ⟨lt, c0, c1, c2, c3, v0, v1, v2, v3⟩ := V3.out
          generalize p ++ ⟨#[46]⟩ = p1 at *
          generalize wr.setCell ⟨w.heap.size + 1, 3, none⟩ (.string p1) = w4 at *
          go_region
          go_wp2_with fail
          go_roundw
          case rel => exact ⟨J13, k + 1, p1 ++ y, g3, by omega, by go_num, by rw [← HK.out]; simp, NG.out, (Z3.out.far3 _ (by omega)).drew, (V3.out.set3 _).drew, (M3.out.set _ (by omega)).drew, (B3.out.setCell (by simp) _).drew, HL2⟩
          case measure => have := HK.out; simp [RowKit.intOf]; omega
      · have dl : decide ((k : Int) < (r : Int)) = false := by simp; omega
        obtain ⟨lt, c0, c1, c2, c3, v0, v1, v2, v3⟩ := HVM.out
        obtain ⟨zt, z0, z1, z2, z3, y0, y1, y2, y3⟩ := HVZ.out
        by_cases hs : p.size ≤ 40
        · have ds : decide ((40 : Int) < (p.size : Int)) = false := by simp; omega
          have OK := hide (made_ok pa pb pc (HG.out.ok hs))
          have HVV := hide (mk_eq HM.out HJN.out ((mLoop_stop (p := p) hk Hr.out hlt).symm.trans HL.out) (if_pos hs).symm)
          go_wp2_with fail
          exact bodyPost_ret (v := val ⟨xa, xb, xc, p⟩) (by simp [results, Tryz.results32, go_sem, z0, z1, z2, z3]) rfl ⟨congrArg (fun v => Ending.returned (val v)) HVV.out, by rw [← HVV.out]; exact OK.out, (((HB.out.setCell (by simp) _).setCell (by simp) _).setCell (by simp) _).setCell (by simp) _⟩
        · have ds : decide ((40 : Int) < (p.size : Int)) = true := by simp; omega
          have OK := hide (made_ok (q := ⟨#[114, 99, 46, 49]⟩) pa pb pc (by decide +kernel))
          have HVV := hide (mk_eq HM.out HJN.out ((mLoop_stop (p := p) hk Hr.out hlt).symm.trans HL.out) (if_neg hs).symm)
          go_wp2_with fail
          exact bodyPost_ret (v := val ⟨xa, xb, xc, ⟨#[114, 99, 46, 49]⟩⟩) (by simp [results, Tryz.results32, go_sem, z0, z1, z2, z3]) rfl ⟨congrArg (fun v => Ending.returned (val v)) HVV.out, by rw [← HVV.out]; exact OK.out, ((((HB.out.setCell (by simp) _).setCell (by simp) _).setCell (by simp) _).setCell (by simp) _).setCell (by simp) _⟩

end Go.Proofs.YtohnlhfgajipgaaGreatDoor
