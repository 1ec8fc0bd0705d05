/-
  The walk of TextLines.
-/
import Derived.Test.YthcclkihfnjpfaaW15
namespace Go.Proofs.Ythcclkihfnjpfaa.textLines
set_option linter.unusedVariables false
open Go.RowKit Go.Tx Go.Joins

set_option maxHeartbeats 1000000 in
set_option maxRecDepth 100000 in
theorem walk (a0 : Option Addr) (len0 cap0 : Nat) (z0 : List Int) (w : World) (w0 : IsRow .u8 w a0 len0 cap0 z0) :
    Calls Try.prog 9 #[.slice a0 len0 cap0] w fun e w' => e = .returned (.bool true) ∧ Below w.heap.size w w' := by
  have hr := w0.row
  have hle := hr.le
  have hmx := hr.mx
  unfold maxLen at hmx
  clear w0
  by_cases hlen : 200 < len0
  · go_enter Try.func9, Try.ntmps9
    go_wp2_with (go_at_call 13; refine (known_any w).mono ?_; rintro e v1 ⟨rfl, hv1⟩)
    go_ret
    exact ⟨rfl, hv1⟩
  have hz := sg_size (z0.take len0) 200
  go_enter Try.func9, Try.ntmps9
  go_wp2_with (go_at_call 13; refine (known_any w).mono ?_; rintro e v1 ⟨rfl, hv1⟩)
  refine (lplain_any a0 len0 cap0 _ 200 v1 (hr.later hv1) (by omega)).mono ?_
  rintro e v2 ⟨rfl, hv2⟩
  have hB2 := hv1.trans (hv2.mono hv1.size)
  generalize str (sg ((z0.take len0).take 200)) = s at *
  clear hv2 hv1 hr hle hmx
  go_wp2_with fail
  go_loopw [4, 5, 6] (fun a b i wr => ∃ k : Nat, k ≤ s.size + 1 ∧ a = .int .i64 (st (s.data.toList.take k)).1 ∧ b = .int .i64 (st (s.data.toList.take k)).2 ∧ i = .int .i64 k ∧ Below w.heap.size w wr) (fun _ _ i _ => s.size + 1 - (intOf i).toNat)
  case atStart => exact ⟨0, by omega, rfl, rfl, rfl, hB2⟩
  case round =>
    obtain ⟨k, hk, rfl, rfl, rfl, hB⟩ := hrel
    clear hB2
    have hb := st_bd (s.data.toList.take k)
    have hl : (s.data.toList.take k).length ≤ k := List.length_take_le _ _
    obtain ⟨b1, b2, b3, b4⟩ := hb
    by_cases hks : k ≤ s.size
    · go_wp2_with fail
      refine (place_any s k _ (by omega)).mono ?_
      rw [Int.toNat_natCast]
      unfold plc
      rintro e v3 ⟨rfl, h3⟩
      have hB3 := hB.trans (h3.mono hB.size)
      by_cases hlt : k < s.size
      · have HS : Hid (st (s.data.toList.take (k + 1)) = stp (st (s.data.toList.take k)) s[k]) := by
          show st _ = _
          rw [take_snoc s k hlt, st_snoc]
        by_cases hnl : ((s[k]).toNat : Int) = 10
        · have HS1 : Hid (st (s.data.toList.take (k + 1)) = ((st (s.data.toList.take k)).1 + 1, 1)) := by
            show st _ = _
            rw [HS.out, stp, if_pos (UInt8.toNat_inj.1 (by show _ = 10; omega))]
          generalize st (s.data.toList.take k) = p at *
          clear HS
          have hq : (((s[k]).toNat : Int) == 10) = true := by simpa using hnl
          clear hnl
          go_wp2_with fail
          go_roundw
          case rel => exact ⟨k + 1, by omega, by rw [HS1.out]; rfl, by rw [HS1.out]; rfl, by go_num, hB3⟩
          case measure => simp [intOf]; omega
        · have HS1 : Hid (st (s.data.toList.take (k + 1)) = ((st (s.data.toList.take k)).1, (st (s.data.toList.take k)).2 + 1)) := by
            show st _ = _
            rw [HS.out, stp, if_neg (fun e => hnl (by rw [e]; rfl))]
          generalize st (s.data.toList.take k) = p at *
          clear HS
          have hq : (((s[k]).toNat : Int) == 10) = false := by simpa using hnl
          clear hnl
          go_wp2_with fail
          go_roundw
          case rel => exact ⟨k + 1, by omega, by rw [HS1.out], by rw [HS1.out]; rfl, by go_num, hB3⟩
          case measure => simp [intOf]; omega
      · have HS1 : Hid (s.data.toList.take (k + 1) = s.data.toList.take k) := by
          show _ = _
          rw [take_all s (k + 1) (by omega), take_all s k (by omega)]
        generalize hp : st (s.data.toList.take k) = p at *
        have HP : Hid (st (s.data.toList.take k) = p) := hp
        clear hp
        go_wp2_with fail
        go_roundw
        case rel => exact ⟨k + 1, by omega, by rw [HS1.out, HP.out], by rw [HS1.out, HP.out], by go_num, hB3⟩
        case measure => simp [intOf]; omega
    · go_wp2_with fail
      go_ret
      exact ⟨rfl, hB⟩

end Go.Proofs.Ythcclkihfnjpfaa.textLines
