/-
  The walk of TextTakes.
-/
import Derived.Test.YthcclkihfnjpfaaW16
namespace Go.Proofs.Ythcclkihfnjpfaa.textTakes
set_option linter.unusedVariables false
open Go.RowKit Go.Tx Go.Joins

theorem pre_no (s : ByteArray) (p : Nat) : Lib.hasPrefix (s.data.toList.drop p) (s.extract p s.size ++ ByteArray.mk #[120]).data.toList = false := by
  rw [ba_app, rest_list]
  unfold Lib.hasPrefix
  cases hp : ((s.data.toList.drop p) ++ (ByteArray.mk #[120]).data.toList).isPrefixOf (s.data.toList.drop p) with
  | false => rfl
  | true =>
    have := (List.isPrefixOf_iff_prefix.1 hp).length_le
    rw [List.length_append] at this
    have e : (ByteArray.mk #[120]).data.toList.length = 1 := rfl
    omega

theorem pre_yes (s : ByteArray) (p q : Nat) : Lib.hasPrefix (s.data.toList.drop p) (s.extract p q).data.toList = true := by
  have : (s.extract p q).data.toList = (s.data.toList.drop p).take (q - p) := by simp
  rw [this]
  exact List.isPrefixOf_iff_prefix.2 (List.take_prefix _ _)

set_option maxHeartbeats 1000000 in
set_option maxRecDepth 100000 in
theorem walk (a0 : Option Addr) (len0 cap0 : Nat) (z0 : List Int) (a1 : Option Addr) (len1 cap1 : Nat) (z1 : List Int) (w : World) (w0 : IsRow .u8 w a0 len0 cap0 z0) (w1 : IsRow .i64 w a1 len1 cap1 z1) (hcap : cap1 ≤ 17592186044416) :
    Calls Try.prog 10 #[.slice a0 len0 cap0, .slice a1 len1 cap1] w fun e w' => e = .returned (.bool true) ∧ Below w.heap.size w w' := by
  have hr := w0.row
  have hr1 := w1.row
  have hle := hr.le
  have hmx := hr.mx
  have hle1 := hr1.le
  unfold maxLen at hmx
  clear w0 w1
  by_cases hlen : 200 < len0
  · go_enter Try.func10, Try.ntmps10
    go_wp2_with (go_at_call 13; refine (known_any w).mono ?_; rintro e v1 ⟨rfl, hv1⟩)
    go_ret
    exact ⟨rfl, hv1⟩
  have hz : (strOfNums (z0.take len0)).size ≤ 200 := by rw [strOfNums_size, hr.n]; omega
  go_enter Try.func10, Try.ntmps10
  go_wp2_with fail
  refine (known_any w).mono ?_
  rintro e v1 ⟨rfl, hv1⟩
  have hcv := (hr.later hv1).conv
  have hr2 := hr1.later hv1
  clear hr hle hmx hr1
  go_wp2_with fail
  generalize strOfNums (z0.take len0) = s at *
  clear hcv
  refine (new_any s v1).mono ?_
  rintro e v2 ⟨rfl, hv2⟩
  have hc2 := new_cur s v1
  rw [← hv2] at hc2
  have hB2 : Below v1.heap.size v1 v2 := by rw [hv2]; exact (Below.refl _ _).alloc (Nat.le_refl _) _
  clear hv2
  go_wp2_with fail
  go_loopw [7, 8] (fun a i wr => ∃ p k : Nat, p ≤ s.size ∧ k ≤ len1 + p ∧ a = .int .i64 p ∧ i = .int .i64 k ∧ IsCur wr v1.heap.size s p ∧ Below v1.heap.size v1 wr) (fun _ i _ => len1 + s.size + 1 - (intOf i).toNat)
  case atStart => exact ⟨0, 0, by omega, by omega, rfl, rfl, hc2, hB2⟩
  case round =>
    obtain ⟨p, k, hp, hk, rfl, rfl, hc, hB⟩ := hrel
    clear hc2 hB2
    by_cases hps : p < s.size
    · by_cases hi : k < len1
      · obtain ⟨b, off, rfl, hcell⟩ := row_at hr2 (by omega)
        have hce := cell_later hB (hcell k hi)
        obtain ⟨y1, y2⟩ := row_bd hr2 k hi
        generalize (List.take len1 z1).getD k 0 = y at *
        clear hcell
        have j1 : (0 : Int) ≤ (k : Int) := by omega
        have j2 : (k : Int) < (len1 : Int) := by omega
        go_wp2_with fail
        refine (within_nat _ _ _ (by omega) (by omega) (by omega) (by omega)).mono ?_
        rintro e v3 ⟨m, rfl, hm, -, rfl⟩
        have hmm : p + m ≤ s.size := by omega
        go_wp2_with fail
        refine (peek_in _ s p _ hc (by omega) hps).mono ?_
        rintro e v4 ⟨rfl, n4, hv4⟩
        have hc4 : IsCur v4 v1.heap.size s p := by rw [hv4]; exact hc.drewN n4
        have hB4 : Below v1.heap.size v1 v4 := by rw [hv4]; exact hB.trans ((Oth.drewN v1.heap.size _ n4).below (Nat.le_refl _))
        clear hc hB hv4
        go_wp2_with fail
        refine (take_no _ s _ p _ hc4 (by omega) (pre_no s p)).mono ?_
        rintro e v5 ⟨rfl, n5, hv5⟩
        have hc5 : IsCur v5 v1.heap.size s p := by rw [hv5]; exact hc4.drewN n5
        have hB5 : Below v1.heap.size v1 v5 := by rw [hv5]; exact hB4.trans ((Oth.drewN v1.heap.size _ n5).below (Nat.le_refl _))
        clear hc4 hB4 hv5
        go_wp2_with fail
        refine (at_any _ s p _ hc5).mono ?_
        rintro e v6 ⟨rfl, rfl⟩
        go_wp2_with fail
        refine (take_yes _ s (s.extract p (p + m)) p _ hc5 (by omega) (pre_yes s p (p + m))).mono ?_
        rw [show (s.extract p (p + m)).size = m by simp; omega]
        rintro e v7 ⟨rfl, hc7, ho7⟩
        have hB7 := hB5.trans (ho7.below (Nat.le_refl _))
        clear hc5 hB5 ho7
        go_wp2_with fail
        refine (at_any _ s (p + m) _ hc7).mono ?_
        rintro e v8 ⟨rfl, rfl⟩
        go_wp2_with fail
        go_roundw
        case rel => exact ⟨p + m, k + 1, by omega, by omega, by go_num, by go_num, hc7, hB7⟩
        case measure => simp [intOf]; omega
      · go_wp2_with fail
        refine (peek_in _ s p _ hc (by omega) hps).mono ?_
        rintro e v4 ⟨rfl, n4, hv4⟩
        have hc4 : IsCur v4 v1.heap.size s p := by rw [hv4]; exact hc.drewN n4
        have hB4 : Below v1.heap.size v1 v4 := by rw [hv4]; exact hB.trans ((Oth.drewN v1.heap.size _ n4).below (Nat.le_refl _))
        clear hc hB hv4
        go_wp2_with fail
        refine (take_no _ s _ p _ hc4 (by omega) (pre_no s p)).mono ?_
        rintro e v5 ⟨rfl, n5, hv5⟩
        have hc5 : IsCur v5 v1.heap.size s p := by rw [hv5]; exact hc4.drewN n5
        have hB5 : Below v1.heap.size v1 v5 := by rw [hv5]; exact hB4.trans ((Oth.drewN v1.heap.size _ n5).below (Nat.le_refl _))
        clear hc4 hB4 hv5
        go_wp2_with fail
        refine (at_any _ s p _ hc5).mono ?_
        rintro e v6 ⟨rfl, rfl⟩
        go_wp2_with fail
        refine (take_yes _ s (s.extract p (p + 1)) p _ hc5 (by omega) (pre_yes s p (p + 1))).mono ?_
        rw [show (s.extract p (p + 1)).size = 1 by simp; omega]
        rintro e v7 ⟨rfl, hc7, ho7⟩
        have hB7 := hB5.trans (ho7.below (Nat.le_refl _))
        clear hc5 hB5 ho7
        go_wp2_with fail
        refine (at_any _ s (p + 1) _ hc7).mono ?_
        rintro e v8 ⟨rfl, rfl⟩
        go_wp2_with fail
        go_roundw
        case rel => exact ⟨p + 1, k + 1, by omega, by omega, by go_num, by go_num, hc7, hB7⟩
        case measure => simp [intOf]; omega
    · obtain rfl : p = s.size := by omega
      have hdr : s.data.toList.drop s.size = [] := List.drop_eq_nil_of_le (by rw [len_eq]; omega)
      go_wp2_with fail
      refine (peek_end _ s s.size _ hc (by omega) hps).mono ?_
      rintro e v4 ⟨rfl, n4, hv4⟩
      have hc4 : IsCur v4 v1.heap.size s s.size := by rw [hv4]; exact hc.drewN n4
      have hB4 : Below v1.heap.size v1 v4 := by rw [hv4]; exact hB.trans ((Oth.drewN v1.heap.size _ n4).below (Nat.le_refl _))
      clear hc hB hv4
      go_wp2_with fail
      refine (take_no _ s _ s.size _ hc4 (by omega) (by rw [hdr]; rfl)).mono ?_
      rintro e v5 ⟨rfl, n5, hv5⟩
      have hc5 : IsCur v5 v1.heap.size s s.size := by rw [hv5]; exact hc4.drewN n5
      have hB5 : Below v1.heap.size v1 v5 := by rw [hv5]; exact hB4.trans ((Oth.drewN v1.heap.size _ n5).below (Nat.le_refl _))
      clear hc4 hB4 hv5
      go_wp2_with fail
      refine (take_yes _ s ⟨#[]⟩ s.size _ hc5 (by omega) (by rw [hdr]; rfl)).mono ?_
      rintro e v6 ⟨rfl, hc6, ho6⟩
      have hc6 : IsCur v6 v1.heap.size s s.size := hc6
      have hB6 := hB5.trans (ho6.below (Nat.le_refl _))
      clear hc5 hB5 ho6
      go_wp2_with fail
      refine (while_any _ s _ s.size _ hc6 (by omega) (by decide)).mono ?_
      rw [hdr]
      rintro e v7 ⟨rfl, hc7, hk7⟩
      have hc7 : IsCur v7 v1.heap.size s s.size := hc7
      have hB7 := hB6.trans (hk7.below (Nat.le_refl _) hB6.size)
      clear hc6 hB6 hk7
      have hse : str (List.takeWhile (fun c => inSet (ByteArray.mk #[97, 98, 99]).data.toList c.toNat) []) = ⟨#[]⟩ := rfl
      rw [hse]
      go_wp2_with fail
      refine (at_any _ s s.size _ hc7).mono ?_
      rintro e v8 ⟨rfl, rfl⟩
      go_wp2_with fail
      go_ret
      exact ⟨rfl, hv1.trans (hB7.mono hv1.size)⟩

end Go.Proofs.Ythcclkihfnjpfaa.textTakes
