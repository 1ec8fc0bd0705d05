/-
  The walk of TextApart.
-/
import Derived.Test.YthcclkihfnjpfaaW17
namespace Go.Proofs.Ythcclkihfnjpfaa.textApart
set_option linter.unusedVariables false
open Go.RowKit Go.Tx Go.Joins
attribute [local go_sem ↓] Go.wp_at_zero Go.wp_at_succ

set_option maxHeartbeats 1000000 in
set_option maxRecDepth 100000 in
theorem walk (a0 : Option Addr) (len0 cap0 : Nat) (z0 : List Int) (a1 : Option Addr) (len1 cap1 : Nat) (z1 : List Int) (w : World) (w0 : IsRow .u8 w a0 len0 cap0 z0) (w1 : IsRow .i64 w a1 len1 cap1 z1) :
    Calls Try.prog 12 #[.slice a0 len0 cap0, .slice a1 len1 cap1] w fun e w' => e = .returned (.bool true) ∧ Below w.heap.size w w' := by
  have hr := w0.row
  have hr1 := w1.row
  have hle := hr.le
  have hmx := hr.mx
  have hle1 := hr1.le
  have hmx1 := hr1.mx
  unfold maxLen at hmx hmx1
  clear w0 w1
  by_cases hlen : 100 < len0
  · go_enter Try.func12, Try.ntmps12
    go_wp2_with (go_at_call 13; refine (known_any w).mono ?_; rintro e v1 ⟨rfl, hv1⟩)
    go_ret
    exact ⟨rfl, hv1⟩
  have hz := sg_size (z0.take len0) 100
  go_enter Try.func12, Try.ntmps12
  go_wp2_with fail
  refine (known_any w).mono ?_
  rintro e v1 ⟨rfl, hv1⟩
  go_wp2_with fail
  refine (lplain_any a0 len0 cap0 _ 100 v1 (hr.later hv1) (by omega)).mono ?_
  rintro e v2 ⟨rfl, hv2⟩
  have hB2 := step hv1 hv2
  have hr2 := hr1.later hB2
  generalize str (sg ((z0.take len0).take 100)) = s at *
  clear hv1 hv2 hr hle hmx hr1
  go_wp2_with fail
  refine (new_any s v2).mono ?_
  rintro e v3 ⟨rfl, hv3⟩
  have hc3 := new_cur s v2
  rw [← hv3] at hc3
  have hB3 : Below v2.heap.size v2 v3 := by rw [hv3]; exact (Below.refl _ _).alloc (Nat.le_refl _) _
  have hs3 : v3.heap.size = v2.heap.size + 1 := by rw [hv3]; simp
  clear hv3
  go_wp2_with fail
  refine (new_any _ v3).mono ?_
  rintro e v4 ⟨rfl, hv4⟩
  have ho4 := new_cur ⟨#[97, 98, 99]⟩ v3
  rw [← hv4] at ho4
  have hB34 : Below v3.heap.size v3 v4 := by rw [hv4]; exact (Below.refl _ _).alloc (Nat.le_refl _) _
  have hs4 : v4.heap.size = v3.heap.size + 1 := by rw [hv4]; simp
  have hc4 := hc3.below hB34
  clear hv4 hc3
  go_wp2_with fail
  refine (rnew_any s v4).mono ?_
  rintro e v5 ⟨rfl, hv5⟩
  have hx5 := rnew_cur s v4
  rw [← hv5] at hx5
  have hB45 : Below v4.heap.size v4 v5 := by rw [hv5]; exact (Below.refl _ _).alloc (Nat.le_refl _) _
  have hc5 := hc4.below hB45
  have ho5 := ho4.below hB45
  have hB5 : Below v2.heap.size v2 v5 := step (step hB3 hB34) hB45
  clear hv5 hc4 ho4 hB45 hB34 hB3
  rw [hs3] at ho5
  rw [hs4, hs3] at hx5
  go_wp2_with fail
  clear hs3 hs4
  go_loopw [9] (fun i wr => ∃ k p q : Nat, k ≤ 20 ∧ i = .int .i64 k ∧ IsCur wr v2.heap.size s p ∧ IsCur wr (v2.heap.size + 1) ⟨#[97, 98, 99]⟩ q ∧ RCur wr (v2.heap.size + 1 + 1) s p ∧ Below v2.heap.size v2 wr) (fun i _ => 20 - (intOf i).toNat)
  case atStart => exact ⟨0, 0, 0, by omega, rfl, hc5, ho5, hx5, hB5⟩
  case round =>
    obtain ⟨k, p, q, hk, rfl, hc, ho, hx, hB⟩ := hrel
    clear hc5 ho5 hx5 hB5
    by_cases hg : k < len1 ∧ k < 20
    · obtain ⟨hg1, hg2⟩ := hg
      obtain ⟨b, off, rfl, hcell⟩ := row_at hr2 (by omega)
      have hce := cell_later hB (hcell k hg1)
      obtain ⟨y1, y2⟩ := row_bd hr2 k hg1
      generalize (List.take len1 z1).getD k 0 = y at *
      clear hcell
      obtain ⟨m, HM, hm⟩ := mod_nat y (38 + 1) (by omega)
      have j1 : (0 : Int) ≤ (k : Int) := by omega
      have j2 : (k : Int) < (len1 : Int) := by omega
      have j3 : (0 : Int) ≤ (m : Int) := by omega
      have j4 : (m : Int) ≤ 38 := by omega
      have hsg := sgB_size
      go_wp2_with fail
      go_quiet ((first | (go_at_call 42; exact Calls.quiet_of_same (signs_is _)) | (go_at_call 15; exact Calls.quiet_of_same (within_is _ _ m _ (by omega) (by omega) (by omega) (by omega) HM))))
      go_wp2_with fail
      have hBn : Below v2.heap.size v2 (wr.drewN nq) := hB.trans ((Oth.drewN v2.heap.size _ nq).below (Nat.le_refl _))
      have hcn := hc.drewN nq
      have hon := ho.drewN nq
      have hxn := hx.drewN nq
      have hxl := hxn.lt
      clear hc ho hx hB hce
      have hsz : (sgB.extract 0 m).size ≤ 38 := by simp; omega
      refine (while_any _ _ _ q _ hon (by decide) (by decide)).mono ?_
      rintro e u1 ⟨rfl, ho1, hk1⟩
      have hc1 : IsCur u1 v2.heap.size s p := hcn.of_block (hk1.block _ (by omega) (by omega))
      have hx1 : RCur u1 (v2.heap.size + 1 + 1) s p := hxn.of_block (hk1.block _ hxl (by omega))
      have hB1 : Below v2.heap.size v2 u1 := hBn.trans (hk1.below (by omega) hBn.size)
      have hxl1 := hx1.lt
      generalize q + (List.takeWhile (fun c => inSet (ByteArray.mk #[97, 98, 99]).data.toList c.toNat) (List.drop q (ByteArray.mk #[97, 98, 99]).data.toList)).length = q1 at ho1
      clear hcn hon hxn hBn hk1
      go_wp2_with fail
      refine (while_any _ s _ p _ hc1 (by omega) (by omega)).mono ?_
      rintro e u2 ⟨rfl, hc2, hk2⟩
      have ho2 : IsCur u2 (v2.heap.size + 1) ⟨#[97, 98, 99]⟩ q1 := ho1.of_block (hk2.block _ (by omega) (by omega))
      have hx2 : RCur u2 (v2.heap.size + 1 + 1) s p := hx1.of_block (hk2.block _ hxl1 (by omega))
      have hB3 : Below v2.heap.size v2 u2 := hB1.trans (hk2.below (Nat.le_refl _) hB1.size)
      clear hc1 ho1 hx1 hB1 hk2
      go_wp2_with fail
      refine (rwhile_any _ s _ p _ hx2 (by omega) (by omega)).mono ?_
      rintro e u3 ⟨rfl, hx3, hk3⟩
      have hc3 := hc2.of_block (hk3.block _ (by omega))
      have ho3 := ho2.of_block (hk3.block _ (by omega))
      have hB4 : Below v2.heap.size v2 u3 := hB3.trans (hk3.below (by omega))
      generalize p + (List.takeWhile (fun c => inSet (sgB.extract 0 m).data.toList c.toNat) (List.drop p s.data.toList)).length = p1 at *
      clear hc2 ho2 hx2 hB3 hk3
      go_wp2_with fail
      go_roundw
      case rel => exact ⟨k + 1, p1, q1, by omega, by go_num, hc3, ho3, hx3, hB4⟩
      case measure => simp [intOf]; omega
    · have hq := ho.le
      have hq3 : q ≤ 3 := hq
      by_cases hg1 : k < len1
      case' pos =>
        have hg2 : ¬ k < 20 := fun e => hg ⟨hg1, e⟩
        have hd2 : decide ((k : Int) < 20) = false := by simp; omega
        have hd1 : decide ((k : Int) < (len1 : Int)) = true := by simp; omega
      case' neg =>
        have hd1 : decide ((k : Int) < (len1 : Int)) = false := by simp; omega
      all_goals
        go_wp2_with fail
        refine (at_any _ s p _ hc).mono ?_
        rintro e u1 ⟨rfl, rfl⟩
        go_wp2_with fail
        refine (rat_any _ s p _ hx).mono ?_
        rintro e u2 ⟨rfl, rfl⟩
        go_wp2_with fail
        refine (at_any _ _ q _ ho).mono ?_
        rintro e u3 ⟨rfl, rfl⟩
        go_wp2_with fail
        go_ret
        exact ⟨ret_bool (decide_eq_true (by omega)), step hB2 hB⟩

end Go.Proofs.Ythcclkihfnjpfaa.textApart
