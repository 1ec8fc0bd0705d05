/-
  The walk of TextUnquotes.
-/
import Derived.Test.YthcclkihfnjpfaaW19
import Derived.Deep.DeepCutAuto
import Derived.Laws.IdiomStrings
namespace Go.Proofs.Ythcclkihfnjpfaa.textUnquotes
set_option linter.unusedVariables false
open Go.RowKit Go.Tx Go.Joins
attribute [local go_sem ↓] Go.wp_at_zero Go.wp_at_succ

/-- []byte(s): a row of its own. -/
theorem conv_bytes (s : ByteArray) (w : World) (hs : s.size ≤ 1000) : ∃ (cap : Nat) (w' : World) (xs : List Int), (convert 9 22 (.string s)).run Try.prog w = .ok (.slice (some ⟨w.heap.size, 0, none⟩) s.size cap) w' ∧ Row .u8 w' (some ⟨w.heap.size, 0, none⟩) s.size cap xs ∧ (∀ j, j < s.size → w'.frozen? ⟨w.heap.size, j, none⟩ = false) ∧ Below w.heap.size w w' ∧ w.heap.size < w'.heap.size := by
  refine ⟨_, _, s.data.toList.map (fun c => (c.toNat : Int)), run_bytes_of_string w 9 22 5 s Try.underlying9 Try.underlying22 Try.underlying5, ?_, ?_, ?_, ?_⟩
  · refine ⟨by simp, (fun e => nomatch e), grownCap_ge _ _ _ _, grownCap_le_maxLen _ _ _ _ (by unfold maxLen; omega), fun x e i hi => ?_, fun z hz => ?_⟩
    · obtain rfl : ⟨w.heap.size, 0, none⟩ = x := by simpa using e
      rw [addr_add, Nat.zero_add]
      have h1 := World.cell?_alloc_mark w.drew (bytesRow s (grownCap w s.size 0 5)) 5 ((bytesRow s (grownCap w s.size 0 5)).size, (bytesRow s (grownCap w s.size 0 5)).size + 1) i
      have h2 := bytesRow_at s (grownCap w s.size 0 5) i hi
      have hi2 : i < s.data.toList.length := by rw [len_eq]; exact hi
      refine (h1.trans h2).trans ?_
      simp [List.getD, List.getElem?_eq_getElem hi2]
    · simp at hz
      obtain ⟨c, _, rfl⟩ := hz
      have := c.toNat_lt
      exact WalkArith.wf_u8 (by omega)
  · intro j hj
    have h1 := World.frozen?_alloc_mark w.drew (bytesRow s (grownCap w s.size 0 5)) 5 (bytesRow s (grownCap w s.size 0 5)).size ((bytesRow s (grownCap w s.size 0 5)).size + 1) j
    refine Eq.trans h1 ?_
    have : s.size ≤ (bytesRow s (grownCap w s.size 0 5)).size := by simp [bytesRow]
    simp; omega
  · exact ((Below.refl _ _).drew).alloc (by simp) _
  · simp

theorem Row.put {w : World} {N len cap : Nat} {xs : List Int} (h : Row .u8 w (some ⟨N, 0, none⟩) len cap xs) (j : Nat) (hj : j < len) (n : Int) (hn : (Lit.int .u8 n).wf = true) : Row .u8 (w.setCell ⟨N, j, none⟩ (.int .u8 n)) (some ⟨N, 0, none⟩) len cap (xs.set j n) := by
  refine ⟨by rw [List.length_set]; exact h.n, (fun e => nomatch e), h.le, h.mx, fun x e i hi => ?_, fun z hz => ?_⟩
  · obtain rfl : ⟨N, 0, none⟩ = x := by simpa using e
    have hc := h.cell _ rfl i hi
    have hcj := h.cell _ rfl j hj
    rw [addr_add, Nat.zero_add] at hc hcj ⊢
    have hix : i < xs.length := by rw [h.n]; exact hi
    by_cases e : j = i
    · subst e
      rw [World.cell?_setCell_same w ⟨N, j, none⟩ _ hcj]
      simp [List.getD, hix]
    · have ho := World.cell?_setCell_other (w := w) (a := ⟨N, j, none⟩) (b := ⟨N, i, none⟩) (v := .int .u8 n) (by simp)
      rw [ho, hc]
      simp [List.getD, e]
  · rcases List.mem_or_eq_of_mem_set hz with h1 | h1
    · exact h.wf z h1
    · rw [h1]; exact hn

set_option maxHeartbeats 8000000 in
set_option maxRecDepth 100000 in
theorem walk (a0 : Option Addr) (len0 cap0 : Nat) (z0 : List Int) (a1 a2 a3 : Int) (a4 : ByteArray) (w : World) (w0 : IsRow .u8 w a0 len0 cap0 z0) (w1 : (Lit.int .i64 a1).wf = true) (w2 : (Lit.int .u8 a2).wf = true) (w3 : (Lit.int .i64 a3).wf = true) (w4 : a4.size ≤ maxLen) :
    Calls Try.prog 7 #[.slice a0 len0 cap0, .int .i64 a1, .int .u8 a2, .int .i64 a3, .string a4] w fun e w' => e = .returned (.bool true) ∧ Below w.heap.size w w' := by
  obtain ⟨x1, x2⟩ := bd64 w1
  obtain ⟨x3, x4⟩ := bd8 w2
  obtain ⟨x5, x6⟩ := bd64 w3
  have hr := w0.row
  have hle := hr.le
  have hmx := hr.mx
  unfold maxLen at hmx w4
  clear w0 w1 w2 w3
  by_cases hl0 : 100 < len0
  · have d0 : decide ((100 : Int) < (len0 : Int)) = true := by simp; omega
    go_enter Try.func7, Try.ntmps7
    go_wp2_with (go_at_call 13; refine (known_any w).mono ?_; rintro e v1 ⟨rfl, hv1⟩)
    go_ret
    exact ⟨rfl, hv1⟩
  have d0 : decide ((100 : Int) < (len0 : Int)) = false := by simp; omega
  by_cases hl1 : 100 < a4.size
  · have d1 : decide ((100 : Int) < (a4.size : Int)) = true := by simp; omega
    go_enter Try.func7, Try.ntmps7
    go_wp2_with (go_at_call 13; refine (known_any w).mono ?_; rintro e v1 ⟨rfl, hv1⟩)
    go_ret
    exact ⟨rfl, hv1⟩
  have d1 : decide ((100 : Int) < (a4.size : Int)) = false := by simp; omega
  have hz := sg_size (z0.take len0) 100
  go_enter Try.func7, Try.ntmps7
  go_wp2_with fail
  refine (known_any w).mono ?_
  rintro e v1 ⟨rfl, hv1⟩
  go_wp2_with fail
  refine (lplain_any a0 len0 cap0 _ 100 v1 (hr.later hv1) (by omega)).mono ?_
  rintro e v2 ⟨rfl, hv2⟩
  have hB2 := step hv1 hv2
  generalize str (sg ((z0.take len0).take 100)) = s at *
  clear hv1 hv2 hr
  go_wp2_with fail
  refine (rquote_any s _ (by omega)).mono ?_
  rintro e v3 ⟨rfl, rfl⟩
  have hql : 2 ≤ (str (quote s.data.toList)).size ∧ (str (quote s.data.toList)).size ≤ 2 * s.size + 2 := by
    rw [str_size]; have := escs_len s.data.toList; rw [len_eq] at this; simp [quote]; omega
  obtain ⟨hq1, hq2⟩ := hql
  generalize str (quote s.data.toList) = q at *
  obtain ⟨bc, v4, xs, hcv, hrow, hfz, hb4, hlt4⟩ := conv_bytes q v3 (by omega)
  have hbc := hrow.le
  have hbm := hrow.mx
  unfold maxLen at hbm
  go_wp2_with fail
  refine (within_nat _ _ _ (by omega) (by omega) (by omega) (by omega)).mono ?_
  rintro e v5 ⟨j, rfl, hj, -, rfl⟩
  have hjn : j < q.size := by omega
  have hce := hrow.cell _ rfl j hjn
  rw [addr_add, Nat.zero_add] at hce
  have hfj := hfz j hjn
  have hzb : 0 ≤ xs.getD j 0 ∧ xs.getD j 0 ≤ 255 := by
    have hl : j < xs.length := by rw [hrow.n]; exact hjn
    have e : xs.getD j 0 = xs[j] := by simp [List.getD, List.getElem?_eq_getElem hl]
    rw [e]; exact bd8 (hrow.wf _ (List.getElem_mem hl))
  obtain ⟨hy1, hy2⟩ := hzb
  have HROW : Hid (Row .u8 v5 (some ⟨v3.heap.size, 0, none⟩) q.size bc xs) := hrow
  generalize xs.getD j 0 = y at *
  clear hrow hcv hfz
  have j1 : (0 : Int) ≤ (j : Int) := by omega
  go_wp2_with fail
  have hrV := Row.put HROW.out j hjn ((y + a2) % 256) (WalkArith.wf_u8 (by omega))
  have hBV : Below w.heap.size w (v5.setCell ⟨v3.heap.size, j, none⟩ (.int .u8 ((y + a2) % 256))) := (step hB2 hb4).setCell hB2.size _
  generalize v5.setCell ⟨v3.heap.size, j, none⟩ (.int .u8 ((y + a2) % 256)) = V at *
  have hxl : (xs.set j ((y + a2) % 256)).length = q.size := hrV.n
  have hcv1 : (convert 22 9 (.slice (some ⟨v3.heap.size, 0, none⟩) q.size bc)).run Try.prog V.drew = .ok (.string (strOfNums (xs.set j ((y + a2) % 256)))) V.drew := (hrV.later (Below.refl _ _).drew).conv
  have hs0 : (strOfNums (xs.set j ((y + a2) % 256))).size ≤ 1000 := by rw [strOfNums_size, hxl]; omega
  generalize strOfNums (xs.set j ((y + a2) % 256)) = s0 at *
  obtain ⟨m, HM, hm⟩ := mod_nat a3 ((q.size : Int) + 1) (by omega)
  have j3 : (0 : Int) ≤ (m : Int) := by omega
  have j4 : (m : Int) ≤ (q.size : Int) := by omega
  have hwq : IntKind.i64.wrap ((q.size : Int) + 1) = (q.size : Int) + 1 := by rw [IntKind.wrap_i64]; omega
  have e1 : (ByteArray.mk #[34]).size = 1 := rfl
  have e2 : (ByteArray.mk #[34, 92]).size = 2 := rfl
  have z1 : (q.extract 0 m).size ≤ 1000 := by rw [ByteArray.size_extract]; omega
  have z2 : a4.size ≤ 1000 := by omega
  have z3 : (ByteArray.mk #[34] ++ a4).size ≤ 1000 := by rw [ByteArray.size_append, e1]; omega
  have z4 : (ByteArray.mk #[34, 92] ++ a4).size ≤ 1000 := by rw [ByteArray.size_append, e2]; omega
  have hw4 : (a4.size : Int) ≤ 100 := by omega
  clear hce hfj HROW hrV hxl hb4 hlt4 hB2
  go_cut [13] (fun l wc => ∃ g s0 s1 s2 s3 s4, l = .slice (some ⟨g, 0, none⟩) 5 5 ∧ w.heap.size ≤ g ∧ wc.heap[g]? = some (.cells #[.string s0, .string s1, .string s2, .string s3, .string s4] 9 (0, 0)) ∧ (s0.size ≤ 1000 ∧ s1.size ≤ 1000 ∧ s2.size ≤ 1000 ∧ s3.size ≤ 1000 ∧ s4.size ≤ 1000) ∧ Below w.heap.size w wc)
  case first =>
    go_region_with (go_at_call 15; refine (within_is _ _ m _ (by omega) (by omega) (by omega) (by omega) HM).mono ?_; rintro e v6 ⟨rfl, rfl⟩)
    all_goals
      go_wp2_with fail
      go_meet
      case rel =>
        refine ⟨V.heap.size, _, _, _, _, _, rfl, hBV.size, heap_alloc_new V _, ⟨hs0, z1, z2, z3, z4⟩, (hBV.alloc hBV.size _).drew⟩
  case rest =>
    obtain ⟨g, s0, s1, s2, s3, s4, rfl, hg, hb, hss, hB⟩ := hcut
    clear hcv1 hBV
    go_wp2_with fail
    go_loopw [14] (fun i wr => ∃ k : Nat, k ≤ 5 ∧ i = .int .i64 k ∧ wr.heap[g]? = some (.cells #[.string s0, .string s1, .string s2, .string s3, .string s4] 9 (0, 0)) ∧ Below w.heap.size w wr) (fun i _ => 5 - (intOf i).toNat)
    case atStart => exact ⟨0, by omega, rfl, hb, hB⟩
    case round =>
      obtain ⟨k, hk, rfl, hbk, hBk⟩ := hrel
      clear hb hB
      by_cases hk2 : k < 5
      · obtain ⟨t, ht, hc⟩ : ∃ t : ByteArray, t.size ≤ 1000 ∧ wr.cell? ⟨g, k, none⟩ = some (.string t) := by
          obtain ⟨p0, p1, p2, p3, p4⟩ := hss
          rcases (show k = 0 ∨ k = 1 ∨ k = 2 ∨ k = 3 ∨ k = 4 by omega) with rfl | rfl | rfl | rfl | rfl
          · exact ⟨_, p0, by rw [cell_of_block hbk]; rfl⟩
          · exact ⟨_, p1, by rw [cell_of_block hbk]; rfl⟩
          · exact ⟨_, p2, by rw [cell_of_block hbk]; rfl⟩
          · exact ⟨_, p3, by rw [cell_of_block hbk]; rfl⟩
          · exact ⟨_, p4, by rw [cell_of_block hbk]; rfl⟩
        have i1 : (0 : Int) ≤ (k : Int) := by omega
        have i2 : (k : Int) < 5 := by omega
        have HBK : Hid _ := hbk
        have hglt : g < wr.heap.size := (Array.getElem?_eq_some_iff.1 hbk).1
        clear hbk
        obtain ⟨uq, HU⟩ : ∃ uq, Hid (unquote t.data.toList = uq) := ⟨_, rfl⟩
        go_wp2_with fail
        refine (unquote_any t _ (by omega) uq HU).mono ?_
        rcases uq with _ | ⟨o, n⟩
        all_goals
          unfold unqV
          rintro e u1 ⟨rfl, h1⟩
          have hc1 := cell_later h1 hc
          have hq1 := step hBk h1
          go_wp2_with fail
          refine (runquote_any t _ (by omega) _ HU).mono ?_
          unfold unqV
          rintro e u2 ⟨rfl, rfl⟩
          go_wp2_with fail
          go_roundw
          case rel => exact ⟨k + 1, by omega, by go_num, by rw [h1.block g hglt]; exact HBK.out, hq1⟩
          case measure => simp [intOf]; omega
      · go_wp2_with fail
        go_ret
        exact ⟨rfl, hBk⟩

end Go.Proofs.Ythcclkihfnjpfaa.textUnquotes
