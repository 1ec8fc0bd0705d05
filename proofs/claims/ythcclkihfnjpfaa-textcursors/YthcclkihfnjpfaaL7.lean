/-
  The walk of TextCursors.
-/
import Derived.Test.YthcclkihfnjpfaaW17
namespace Go.Proofs.Ythcclkihfnjpfaa.textCursors
set_option linter.unusedVariables false
open Go.RowKit Go.Tx Go.Joins
attribute [local go_sem ↓] Go.wp_at_zero Go.wp_at_succ

theorem quo_rem (m a b : Nat) : ∃ f d : Nat, (m : Int) / (a : Int) = (d : Int) ∧ (d : Int) % (b : Int) = (f : Int) ∧ d ≤ m := ⟨m / a % b, m / a, rfl, rfl, Nat.div_le_self m a⟩

theorem Row.pre {k : IntKind} {w : World} {a : Option Addr} {len cap : Nat} {xs : List Int} (h : Row k w a len cap xs) (t : Nat) (ht : t ≤ len) : Row k w a t cap (xs.take t) := by
  refine ⟨by rw [List.length_take, h.n]; omega, fun e => ?_, Nat.le_trans ht h.le, h.mx, fun x e i hi => ?_, fun z hz => h.wf z (List.mem_of_mem_take hz)⟩
  · have := h.nil e; exact ⟨by omega, this.2⟩
  · rw [h.cell x e i (by omega)]
    simp [List.getD, hi]

set_option maxHeartbeats 8000000 in
set_option maxRecDepth 100000 in
theorem walk (a0 : Option Addr) (len0 cap0 : Nat) (z0 : List Int) (a1 : Option Addr) (len1 cap1 : Nat) (z1 : List Int) (a2 : Option Addr) (len2 cap2 : Nat) (z2 : List Int) (w : World) (w0 : IsRow .u8 w a0 len0 cap0 z0) (w1 : IsRow .i64 w a1 len1 cap1 z1) (w2 : IsRow .u8 w a2 len2 cap2 z2) :
    Calls Try.prog 4 #[.slice a0 len0 cap0, .slice a1 len1 cap1, .slice a2 len2 cap2] w fun e w' => e = .returned (.bool true) ∧ Below w.heap.size w w' := by
  have hr0 := w0.row
  have hr1 := w1.row
  have hr2 := w2.row
  have hle := hr0.le
  have hmx := hr0.mx
  have hle1 := hr1.le
  have hmx1 := hr1.mx
  have hle2 := hr2.le
  have hmx2 := hr2.mx
  unfold maxLen at hmx hmx1 hmx2
  clear w0 w1 w2
  by_cases hl0 : 200 < len0
  · have d0 : decide ((200 : Int) < (len0 : Int)) = true := by simp; omega
    go_enter Try.func4, Try.ntmps4
    go_wp2_with (go_at_call 13; refine (known_any w).mono ?_; rintro e v1 ⟨rfl, hv1⟩)
    go_ret
    exact ⟨rfl, hv1⟩
  have d0 : decide ((200 : Int) < (len0 : Int)) = false := by simp; omega
  by_cases hl2 : 20 < len2
  · have d1 : decide ((20 : Int) < (len2 : Int)) = true := by simp; omega
    go_enter Try.func4, Try.ntmps4
    go_wp2_with (go_at_call 13; refine (known_any w).mono ?_; rintro e v1 ⟨rfl, hv1⟩)
    go_ret
    exact ⟨rfl, hv1⟩
  have d1 : decide ((20 : Int) < (len2 : Int)) = false := by simp; omega
  have hz := sg_size (z0.take len0) 200
  go_enter Try.func4, Try.ntmps4
  go_wp2_with fail
  refine (known_any w).mono ?_
  rintro e v1 ⟨rfl, hv1⟩
  go_wp2_with fail
  refine (lplain_any a0 len0 cap0 _ 200 v1 (hr0.later hv1) (by omega)).mono ?_
  rintro e v2 ⟨rfl, hv2⟩
  have hB2 := step hv1 hv2
  generalize str (sg ((z0.take len0).take 200)) = s at *
  have hr3 := hr1.later hB2
  have hr4 := hr2.later hB2
  clear hv1 hv2 hr0 hr1 hr2
  go_wp2_with fail
  refine (new_any s v2).mono ?_
  rintro e v3 ⟨rfl, hv3⟩
  have hc3 := new_cur s v2
  rw [← hv3] at hc3
  have hB3 : Below v2.heap.size v2 v3 := by rw [hv3]; exact (Below.refl _ _).alloc (Nat.le_refl _) _
  have hMN : v3.heap.size = v2.heap.size + 1 := by rw [hv3]; simp
  clear hv3
  go_wp2_with fail
  refine (rnew_any s v3).mono ?_
  rintro e v4 ⟨rfl, hv4⟩
  have hx4 := rnew_cur s v3
  rw [← hv4] at hx4
  have hq4 : Below v3.heap.size v3 v4 := by rw [hv4]; exact (Below.refl _ _).alloc (Nat.le_refl _) _
  have hc4 := hc3.below hq4
  have hB4 := hB3.trans (hq4.mono hB3.size)
  clear hv4 hq4 hc3 hB3
  generalize v3.heap.size = M at *
  subst hMN
  go_wp2_with fail
  go_loopw [10] (fun i wr => ∃ p k : Nat, k ≤ 40 ∧ i = .int .i64 k ∧ IsCur wr v2.heap.size s p ∧ RCur wr (v2.heap.size + 1) s p ∧ Below v2.heap.size v2 wr) (fun i _ => 40 - (intOf i).toNat)
  case atStart => exact ⟨0, 0, by omega, rfl, hc4, hx4, hB4⟩
  case round =>
    obtain ⟨p, k, hk, rfl, hc, hx, hB⟩ := hrel
    clear hc4 hx4 hB4
    by_cases hi : k < len1
    · by_cases hi2 : k < 40
      · obtain ⟨b, off, rfl, hcell⟩ := row_at hr3 (by omega)
        have hce := cell_later hB (hcell k hi)
        obtain ⟨y1, y2⟩ := row_bd hr3 k hi
        generalize (List.take len1 z1).getD k 0 = y at *
        clear hcell
        have j1 : (0 : Int) ≤ (k : Int) := by omega
        have j2 : (k : Int) < (len1 : Int) := by omega
        go_wp2_with fail
        refine (within_nat _ _ _ (by omega) (by omega) (by omega) (by omega)).mono ?_
        rintro e v5 ⟨m, rfl, hm, -, rfl⟩
        clear hce
        have hple := hx.le
        rcases (show m % 4 = 0 ∨ m % 4 = 1 ∨ (2 ≤ m % 4 ∧ m % 4 < 4) by omega) with h4 | h4 | h4
        · have e4 : (m : Int) % 4 = 0 := by omega
          by_cases hps : p < s.size
          · skip
            go_wp2_with fail
            refine (peek_in _ s p _ hc (by omega) hps).mono ?_
            rintro e v6 ⟨rfl, n6, hv6⟩
            have hc6 : IsCur v6 v2.heap.size s p := by rw [hv6]; exact hc.drewN n6
            have hx6 : RCur v6 (v2.heap.size + 1) s p := by rw [hv6]; exact hx.drewN n6
            have hB6 : Below v2.heap.size v2 v6 := by rw [hv6]; exact hB.trans ((Oth.drewN v2.heap.size _ n6).below (Nat.le_refl _))
            clear hc hx hB hv6
            go_wp2_with fail
            refine (rpeek_in _ s p _ hx6 (by omega) hps).mono ?_
            rintro e v7 ⟨rfl, n7, hv7⟩
            have hcE : IsCur v7 v2.heap.size s p := by rw [hv7]; exact hc6.drewN n7
            have hxE : RCur v7 (v2.heap.size + 1) s p := by rw [hv7]; exact hx6.drewN n7
            have hBE : Below v2.heap.size v2 v7 := by rw [hv7]; exact hB6.trans ((Oth.drewN v2.heap.size _ n7).below (Nat.le_refl _))
            clear hc6 hx6 hB6 hv7
            go_wp2_with fail
            refine (at_any _ s p _ hcE).mono ?_
            rintro e u1 ⟨rfl, rfl⟩
            go_wp2_with fail
            refine (rat_any _ s p _ hxE).mono ?_
            rintro e u2 ⟨rfl, rfl⟩
            go_wp2_with fail
            refine (cplace_any _ s p _ hcE (by omega)).mono ?_
            unfold plc
            rintro e u3 ⟨rfl, hu3⟩
            have hx3 := hxE.below hu3
            have hc3 := hcE.below hu3
            have hB3 := hBE.trans (hu3.mono hBE.size)
            clear hcE hxE hBE hu3
            go_wp2_with fail
            refine (rplacec_any _ s p _ hx3 (by omega)).mono ?_
            unfold plc
            rintro e u4 ⟨rfl, hu4⟩
            go_wp2_with fail
            go_roundw
            case rel => exact ⟨p, k + 1, by omega, by go_num, hc3.below hu4, hx3.below hu4, hB3.trans (hu4.mono hB3.size)⟩
            case measure => simp [intOf]; omega
          · skip
            go_wp2_with fail
            refine (peek_end _ s p _ hc (by omega) hps).mono ?_
            rintro e v6 ⟨rfl, n6, hv6⟩
            have hc6 : IsCur v6 v2.heap.size s p := by rw [hv6]; exact hc.drewN n6
            have hx6 : RCur v6 (v2.heap.size + 1) s p := by rw [hv6]; exact hx.drewN n6
            have hB6 : Below v2.heap.size v2 v6 := by rw [hv6]; exact hB.trans ((Oth.drewN v2.heap.size _ n6).below (Nat.le_refl _))
            clear hc hx hB hv6
            go_wp2_with fail
            refine (rpeek_end _ s p _ hx6 (by omega) hps).mono ?_
            rintro e v7 ⟨rfl, n7, hv7⟩
            have hcE : IsCur v7 v2.heap.size s p := by rw [hv7]; exact hc6.drewN n7
            have hxE : RCur v7 (v2.heap.size + 1) s p := by rw [hv7]; exact hx6.drewN n7
            have hBE : Below v2.heap.size v2 v7 := by rw [hv7]; exact hB6.trans ((Oth.drewN v2.heap.size _ n7).below (Nat.le_refl _))
            clear hc6 hx6 hB6 hv7
            go_wp2_with fail
            refine (at_any _ s p _ hcE).mono ?_
            rintro e u1 ⟨rfl, rfl⟩
            go_wp2_with fail
            refine (rat_any _ s p _ hxE).mono ?_
            rintro e u2 ⟨rfl, rfl⟩
            go_wp2_with fail
            refine (cplace_any _ s p _ hcE (by omega)).mono ?_
            unfold plc
            rintro e u3 ⟨rfl, hu3⟩
            have hx3 := hxE.below hu3
            have hc3 := hcE.below hu3
            have hB3 := hBE.trans (hu3.mono hBE.size)
            clear hcE hxE hBE hu3
            go_wp2_with fail
            refine (rplacec_any _ s p _ hx3 (by omega)).mono ?_
            unfold plc
            rintro e u4 ⟨rfl, hu4⟩
            go_wp2_with fail
            go_roundw
            case rel => exact ⟨p, k + 1, by omega, by go_num, hc3.below hu4, hx3.below hu4, hB3.trans (hu4.mono hB3.size)⟩
            case measure => simp [intOf]; omega
        · have e4 : (m : Int) % 4 = 1 := by omega
          obtain ⟨f4, d4, E1, E2, -⟩ := quo_rem m 4 3
          obtain ⟨f12, d12, E3, E4, -⟩ := quo_rem m 12 3
          obtain ⟨f36, d36, E5, -, hd36⟩ := quo_rem m 36 3
          have E1 : (m : Int) / 4 = (d4 : Int) := E1
          have E2 : (d4 : Int) % 3 = (f4 : Int) := E2
          have E3 : (m : Int) / 12 = (d12 : Int) := E3
          have E4 : (d12 : Int) % 3 = (f12 : Int) := E4
          have E5 : (m : Int) / 36 = (d36 : Int) := E5
          clear h4
          have c1 := hx.c1
          have g1 : min (p : Int) (s.size : Int) = (p : Int) := by omega
          obtain ⟨q, Q1, hq1, hq2⟩ : ∃ q : Nat, min ((p : Int) + (f4 : Int)) (s.size : Int) = (q : Int) ∧ p ≤ q ∧ q ≤ s.size := ⟨min (p + f4) s.size, by omega, by omega, by omega⟩
          have i1 : (0 : Int) ≤ (p : Int) := by omega
          have i2 : (p : Int) ≤ (q : Int) := by omega
          have i3 : (q : Int) ≤ (s.size : Int) := by omega
          have hez : (s.extract p q).size ≤ 200 := by rw [ByteArray.size_extract]; omega
          by_cases h12 : f12 = 0
          · subst h12
            go_wp2_with fail
            go_quiet (fail)
            replace hc := hc.drewN nq
            replace hx := hx.drewN nq
            replace hB := hB.trans ((Oth.drewN v2.heap.size _ nq).below (Nat.le_refl _))
            go_wp2_with fail
            refine (within_nat _ _ _ (by omega) (by omega) (by omega) (by omega)).mono ?_
            rintro e v6 ⟨t, rfl, ht, -, rfl⟩
            have hrp := Row.pre (hr4.later hB) t (by omega)
            have hcv := hrp.conv
            have hrz : (strOfNums ((List.take len2 z2).take t)).size ≤ 20 := by rw [strOfNums_size, hrp.n]; omega
            have k1 : (0 : Int) ≤ (t : Int) := by omega
            have k2 : (t : Int) ≤ (cap2 : Int) := by omega
            clear hrp c1
            go_wp2_with fail
            generalize strOfNums ((List.take len2 z2).take t) = r at *
            clear hcv
            refine (take_any _ s _ p _ hc (by omega)).mono ?_
            rintro e v6 ⟨rfl, hc6, ho6⟩
            have hx6 := hx.of_block (ho6.block _ (by omega))
            have hB6 := hB.trans (ho6.below (Nat.le_refl _))
            clear hc hx hB ho6
            go_wp2_with fail
            refine (rtake_any _ s _ p _ hx6 (by omega) (by omega)).mono ?_
            rintro e v7 ⟨rfl, hxE, ho7⟩
            have hcE := hc6.of_block (ho7.block v2.heap.size (by omega))
            have hBE := hB6.trans (ho7.below (B := v2.heap.size) (by omega))
            clear hc6 hx6 hB6 ho7
            generalize Lib.hasPrefix (s.data.toList.drop p) r.data.toList = bb at *
            generalize (if bb = true then p + r.size else p) = P at *
            go_wp2_with fail
            refine (at_any _ s P _ hcE).mono ?_
            rintro e u1 ⟨rfl, rfl⟩
            go_wp2_with fail
            refine (rat_any _ s P _ hxE).mono ?_
            rintro e u2 ⟨rfl, rfl⟩
            go_wp2_with fail
            refine (cplace_any _ s P _ hcE (by omega)).mono ?_
            unfold plc
            rintro e u3 ⟨rfl, hu3⟩
            have hx3 := hxE.below hu3
            have hc3 := hcE.below hu3
            have hB3 := hBE.trans (hu3.mono hBE.size)
            clear hcE hxE hBE hu3
            go_wp2_with fail
            refine (rplacec_any _ s P _ hx3 (by omega)).mono ?_
            unfold plc
            rintro e u4 ⟨rfl, hu4⟩
            go_wp2_with fail
            go_roundw
            case rel => exact ⟨P, k + 1, by omega, by go_num, hc3.below hu4, hx3.below hu4, hB3.trans (hu4.mono hB3.size)⟩
            case measure => simp [intOf]; omega
          · have e7 : ((f12 : Int) == 0) = false := by simp; omega
            go_wp2_with fail
            go_quiet (fail)
            replace hc := hc.drewN nq
            replace hx := hx.drewN nq
            replace hB := hB.trans ((Oth.drewN v2.heap.size _ nq).below (Nat.le_refl _))
            clear c1
            go_wp2_with fail
            generalize s.extract p q = r at *
            refine (take_any _ s _ p _ hc (by omega)).mono ?_
            rintro e v6 ⟨rfl, hc6, ho6⟩
            have hx6 := hx.of_block (ho6.block _ (by omega))
            have hB6 := hB.trans (ho6.below (Nat.le_refl _))
            clear hc hx hB ho6
            go_wp2_with fail
            refine (rtake_any _ s _ p _ hx6 (by omega) (by omega)).mono ?_
            rintro e v7 ⟨rfl, hxE, ho7⟩
            have hcE := hc6.of_block (ho7.block v2.heap.size (by omega))
            have hBE := hB6.trans (ho7.below (B := v2.heap.size) (by omega))
            clear hc6 hx6 hB6 ho7
            generalize Lib.hasPrefix (s.data.toList.drop p) r.data.toList = bb at *
            generalize (if bb = true then p + r.size else p) = P at *
            go_wp2_with fail
            refine (at_any _ s P _ hcE).mono ?_
            rintro e u1 ⟨rfl, rfl⟩
            go_wp2_with fail
            refine (rat_any _ s P _ hxE).mono ?_
            rintro e u2 ⟨rfl, rfl⟩
            go_wp2_with fail
            refine (cplace_any _ s P _ hcE (by omega)).mono ?_
            unfold plc
            rintro e u3 ⟨rfl, hu3⟩
            have hx3 := hxE.below hu3
            have hc3 := hcE.below hu3
            have hB3 := hBE.trans (hu3.mono hBE.size)
            clear hcE hxE hBE hu3
            go_wp2_with fail
            refine (rplacec_any _ s P _ hx3 (by omega)).mono ?_
            unfold plc
            rintro e u4 ⟨rfl, hu4⟩
            go_wp2_with fail
            go_roundw
            case rel => exact ⟨P, k + 1, by omega, by go_num, hc3.below hu4, hx3.below hu4, hB3.trans (hu4.mono hB3.size)⟩
            case measure => simp [intOf]; omega
        · obtain ⟨r4, e4, hr41, hr42⟩ : ∃ r : Nat, (m : Int) % 4 = (r : Int) ∧ 2 ≤ r ∧ r < 4 := ⟨m % 4, by omega, h4.1, h4.2⟩
          have e5 : ((r4 : Int) == 0) = false := by simp; omega
          have e6 : ((r4 : Int) == 1) = false := by simp; omega
          obtain ⟨f4, d4, E1, E2, -⟩ := quo_rem m 4 2
          have E1 : (m : Int) / 4 = (d4 : Int) := E1
          have E2 : (d4 : Int) % 2 = (f4 : Int) := E2
          clear h4
          have hz2 := sg_size (z2.take len2) 20
          go_wp2_with fail
          refine (lplain_any a2 len2 cap2 _ 20 _ (hr4.later hB) (by omega)).mono ?_
          rintro e v6 ⟨rfl, hv6⟩
          replace hc := hc.below hv6
          replace hx := hx.below hv6
          replace hB := hB.trans (hv6.mono hB.size)
          clear hv6
          generalize str (sg ((List.take len2 z2).take 20)) = t0 at *
          by_cases h2 : f4 = 0
          · subst h2
            go_wp2_with fail
            generalize ht : (ByteArray.mk #[97, 98, 99, 110, 116, 32, 10, 48, 49, 50, 51]) = t at *
            have htz : t.size = 11 := by rw [← ht]; rfl
            clear ht
            refine (while_any _ s _ p _ hc (by omega) (by omega)).mono ?_
            rintro e v6 ⟨rfl, hc6, hk6⟩
            have hx6 := hx.of_block (hk6.block _ hx.lt (by omega))
            have hB6 := hB.trans (hk6.below (Nat.le_refl _) hB.size)
            clear hc hx hB hk6
            go_wp2_with fail
            refine (rwhile_any _ s _ p _ hx6 (by omega) (by omega)).mono ?_
            rintro e v7 ⟨rfl, hxE, ho7⟩
            have hcE := hc6.of_block (ho7.block v2.heap.size (by omega))
            have hBE := hB6.trans (ho7.below (B := v2.heap.size) (by omega))
            clear hc6 hx6 hB6 ho7
            generalize (s.data.toList.drop p).takeWhile (fun c => inSet t.data.toList c.toNat) = tw at *
            generalize p + tw.length = P at *
            generalize str tw = st0 at *
            go_wp2_with fail
            refine (at_any _ s P _ hcE).mono ?_
            rintro e u1 ⟨rfl, rfl⟩
            go_wp2_with fail
            refine (rat_any _ s P _ hxE).mono ?_
            rintro e u2 ⟨rfl, rfl⟩
            go_wp2_with fail
            refine (cplace_any _ s P _ hcE (by omega)).mono ?_
            unfold plc
            rintro e u3 ⟨rfl, hu3⟩
            have hx3 := hxE.below hu3
            have hc3 := hcE.below hu3
            have hB3 := hBE.trans (hu3.mono hBE.size)
            clear hcE hxE hBE hu3
            go_wp2_with fail
            refine (rplacec_any _ s P _ hx3 (by omega)).mono ?_
            unfold plc
            rintro e u4 ⟨rfl, hu4⟩
            go_wp2_with fail
            go_roundw
            case rel => exact ⟨P, k + 1, by omega, by go_num, hc3.below hu4, hx3.below hu4, hB3.trans (hu4.mono hB3.size)⟩
            case measure => simp [intOf]; omega
          · have e7 : ((f4 : Int) == 0) = false := by simp; omega
            go_wp2_with fail
            generalize t0 = t at *
            refine (while_any _ s _ p _ hc (by omega) (by omega)).mono ?_
            rintro e v6 ⟨rfl, hc6, hk6⟩
            have hx6 := hx.of_block (hk6.block _ hx.lt (by omega))
            have hB6 := hB.trans (hk6.below (Nat.le_refl _) hB.size)
            clear hc hx hB hk6
            go_wp2_with fail
            refine (rwhile_any _ s _ p _ hx6 (by omega) (by omega)).mono ?_
            rintro e v7 ⟨rfl, hxE, ho7⟩
            have hcE := hc6.of_block (ho7.block v2.heap.size (by omega))
            have hBE := hB6.trans (ho7.below (B := v2.heap.size) (by omega))
            clear hc6 hx6 hB6 ho7
            generalize (s.data.toList.drop p).takeWhile (fun c => inSet t.data.toList c.toNat) = tw at *
            generalize p + tw.length = P at *
            generalize str tw = st0 at *
            go_wp2_with fail
            refine (at_any _ s P _ hcE).mono ?_
            rintro e u1 ⟨rfl, rfl⟩
            go_wp2_with fail
            refine (rat_any _ s P _ hxE).mono ?_
            rintro e u2 ⟨rfl, rfl⟩
            go_wp2_with fail
            refine (cplace_any _ s P _ hcE (by omega)).mono ?_
            unfold plc
            rintro e u3 ⟨rfl, hu3⟩
            have hx3 := hxE.below hu3
            have hc3 := hcE.below hu3
            have hB3 := hBE.trans (hu3.mono hBE.size)
            clear hcE hxE hBE hu3
            go_wp2_with fail
            refine (rplacec_any _ s P _ hx3 (by omega)).mono ?_
            unfold plc
            rintro e u4 ⟨rfl, hu4⟩
            go_wp2_with fail
            go_roundw
            case rel => exact ⟨P, k + 1, by omega, by go_num, hc3.below hu4, hx3.below hu4, hB3.trans (hu4.mono hB3.size)⟩
            case measure => simp [intOf]; omega
      · go_wp2_with fail
        go_ret
        exact ⟨rfl, hB2.trans (hB.mono hB2.size)⟩
    · go_wp2_with fail
      go_ret
      exact ⟨rfl, hB2.trans (hB.mono hB2.size)⟩

end Go.Proofs.Ythcclkihfnjpfaa.textCursors
