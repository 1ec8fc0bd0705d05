/-
  The walk of TextPlaces.
-/
import Derived.Test.YthcclkihfnjpfaaW15
import Derived.Deep.DeepCutAuto
namespace Go.Proofs.Ythcclkihfnjpfaa.textPlaces
set_option linter.unusedVariables false
open Go.RowKit Go.Tx Go.Joins
attribute [local go_sem ↓] Go.wp_at_zero Go.wp_at_succ

set_option maxHeartbeats 1000000 in
set_option maxRecDepth 100000 in
theorem walk (a0 : Option Addr) (len0 cap0 : Nat) (z0 : List Int) (a1 a2 : Int) (w : World) (w0 : IsRow .u8 w a0 len0 cap0 z0) (w1 : (Lit.int .i64 a1).wf = true) (w2 : (Lit.int .i64 a2).wf = true) :
    Calls Try.prog 3 #[.slice a0 len0 cap0, .int .i64 a1, .int .i64 a2] w fun e w' => e = .returned (.bool true) ∧ Below w.heap.size w w' := by
  obtain ⟨c1, c2⟩ := bd64 w1
  obtain ⟨d1, d2⟩ := bd64 w2
  have hr := w0.row
  have hle := hr.le
  have hmx := hr.mx
  unfold maxLen at hmx
  clear w0 w1 w2
  by_cases hlen : 300 < len0
  · go_enter Try.func3, Try.ntmps3
    go_wp2_with (go_at_call 13; refine (known_any w).mono ?_; rintro e v1 ⟨rfl, hv1⟩)
    go_ret
    exact ⟨rfl, hv1⟩
  have hz := sg_size (z0.take len0) 300
  have hz2 : (strOfNums (z0.take len0)).size ≤ 300 := by rw [strOfNums_size, hr.n]; omega
  go_enter Try.func3, Try.ntmps3
  go_wp2_with fail
  refine (known_any w).mono ?_
  rintro e v1 ⟨rfl, hv1⟩
  have hcv1 : (convert 22 9 (.slice a0 len0 cap0)).run Try.prog v1.drew = .ok (.string (strOfNums (z0.take len0))) v1.drew := (hr.later hv1.drew).conv
  have hcv2 : ∀ v2 : World, Below v1.heap.size v1.drew v2 → (convert 22 9 (.slice a0 len0 cap0)).run Try.prog v2 = .ok (.string (strOfNums (z0.take len0))) v2 := fun v2 h => (hr.later (hv1.drew.trans (h.mono hv1.size))).conv
  have HC2 : Hid _ := hcv2
  clear hcv2
  go_wp2_with fail
  go_cut [7] (fun l wc => ∃ g, l = .slice (some ⟨g, 0, none⟩) 2 2 ∧ w.heap.size ≤ g ∧ wc.heap[g]? = some (.cells #[.string (strOfNums (z0.take len0)), .string (str (sg ((z0.take len0).take 300)))] 9 (0, 0)) ∧ Below w.heap.size w wc)
  case first =>
    go_region_with (go_at_call 14; refine (lplain_any a0 len0 cap0 _ 300 _ (hr.later (by exact hv1.drew)) (by omega)).mono ?_; rintro e v2 ⟨rfl, hv2⟩; have hcv3 := HC2.out v2 hv2)
    all_goals
      go_wp2_with fail
      go_meet
      case rel =>
        have hB2 : Below w.heap.size w v2 := hv1.drew.trans (hv2.mono hv1.size)
        exact ⟨v2.heap.size, rfl, hB2.size, heap_alloc_new v2 _, hB2.alloc hB2.size _⟩
  case rest =>
    obtain ⟨g, rfl, hg, hb, hB⟩ := hcut
    clear hcv1 HC2 hv1
    go_wp2_with fail
    go_loopw [8] (fun i wr => ∃ k : Nat, k ≤ 2 ∧ i = .int .i64 k ∧ wr.heap[g]? = some (.cells #[.string (strOfNums (z0.take len0)), .string (str (sg ((z0.take len0).take 300)))] 9 (0, 0)) ∧ Below w.heap.size w wr) (fun i _ => 2 - (intOf i).toNat)
    case atStart => exact ⟨0, by omega, rfl, hb, hB⟩
    case round =>
      obtain ⟨k, hk, rfl, hbk, hBk⟩ := hrel
      clear hb hB
      by_cases hk2 : k < 2
      · obtain ⟨s, hs, hc⟩ : ∃ s : ByteArray, s.size ≤ 300 ∧ wr.cell? ⟨g, k, none⟩ = some (.string s) := by
          rcases (show k = 0 ∨ k = 1 by omega) with rfl | rfl
          · exact ⟨_, hz2, by rw [cell_of_block hbk]; rfl⟩
          · exact ⟨_, hz, by rw [cell_of_block hbk]; rfl⟩
        have i1 : (0 : Int) ≤ (k : Int) := by omega
        have i2 : (k : Int) < 2 := by omega
        have HBK : Hid _ := hbk
        have hglt : g < wr.heap.size := (Array.getElem?_eq_some_iff.1 hbk).1
        clear hbk
        go_wp2_with fail
        refine (within_nat _ _ _ (by omega) (by omega) (by omega) (by omega)).mono ?_
        rintro e v3 ⟨m, rfl, hm, -, rfl⟩
        go_wp2_with fail
        go_region_held3 (fun w' => w'.cell? ⟨g, k, none⟩ = some (.string s)) (first | go_keep | assumption) (first | (go_at_call 16; refine (place_any s _ _ (by omega)).mono ?_; unfold plc; rintro e v4 ⟨rfl, h4⟩; have c4 := cell_later (a := ⟨g, k, none⟩) h4 (by first | exact hc | assumption); have q4 := step (w := v3) (by first | exact (Below.refl _ _).drew | assumption) h4) | (go_at_call 17; refine (rplace_any s _ _ (by omega)).mono ?_; unfold plc; rintro e v5 ⟨rfl, h5⟩; have c5 := cell_later (a := ⟨g, k, none⟩) h5 (by first | exact hc | assumption); have q5 := step (w := v3) (by first | exact (Below.refl _ _).drew | assumption) h5))
        all_goals
          have hq : Below v3.heap.size v3 v5 := by assumption
          go_wp2_with fail
          go_roundw
          case rel => exact ⟨k + 1, by omega, by go_num, by rw [hq.block g hglt]; exact HBK.out, step hBk hq⟩
          case measure => simp [intOf]; omega
      · go_wp2_with fail
        go_ret
        exact ⟨rfl, hBk⟩

end Go.Proofs.Ythcclkihfnjpfaa.textPlaces
