/-
  Contract of Sorted.
-/
import Derived.Test.YthcclkihfnjpfaaW4
import Derived.Test.YthcclkihfnjpfaaM4
import Derived.Test.YthcclkihfnjpfaaShelf2
import Derived.Laws.CopyOwn
namespace Go.Proofs.Ythcclkihfnjpfaa
set_option linter.unusedVariables false
open Go.RowKit Go.Tx Go.Sort

/-- A slice of texts that is there. -/
structure SRow (w : World) (a : Option Addr) (len cap : Nat) (ss : List (List UInt8)) : Prop where
  n : ss.length = len
  nil : a = none → len = 0
  cell : ∀ x, a = some x → ∀ j v, (ss.map encStr)[j]? = some v → w.cell? (x.add j) = some v

theorem infoS : Try.prog.info? 9 = some Try.t9 := by kernel_rfl
theorem sizeS : (Try.prog.info? 9).map (·.size) = some 1 := by kernel_rfl

theorem enc_one (ss : List (List UInt8)) : ∀ u ∈ ss.map encStr, u.oneCell' = true := by
  intro u hu
  simp at hu
  obtain ⟨z, _, rfl⟩ := hu
  rfl

set_option maxHeartbeats 800000 in
set_option maxRecDepth 100000 in
theorem sorted_nil (a : Option Addr) (cap : Nat) (w : World) :
    Calls Try.prog 39 #[.slice a 0 cap] w fun x w' => x = .returned (.slice (some ⟨w.heap.size, 0, none⟩) 0 0) ∧ Below w.heap.size w w' ∧ w'.ownsRow w.heap.size 9 1 (.slice (some ⟨w.heap.size, 0, none⟩) 0 0) 0 [] := by
  go_enter Try.func39, Try.ntmps39
  go_wp2_with (first | (at_make; refine wpList_make_full _ rfl _ _ _ rfl w.heap.size 9 Try.t9 (.string ⟨#[]⟩) 1 Try.underlying25 infoS rfl rfl .i64 .i64 0 0 0 rfl rfl rfl rfl (by decide) (by decide) (Nat.le_refl _) ?_; intro w1 h1 h2) | (refine wpList_copy_nothing rfl _ _ _ _ rfl 9 Try.underlying25 sizeS (some ⟨w.heap.size, 0, none⟩) a 0 0 0 cap rfl rfl rfl ?_) | (go_at_call 54; refine (sort_none _ _ _).mono ?_; rintro x w2 ⟨rfl, rfl⟩) | (go_at_call 55; refine (compact_none _ _ _).mono ?_; rintro x w2 ⟨rfl, rfl⟩))
  go_ret
  exact ⟨rfl, (Below.refl _ _).grown h2 (Nat.le_refl _) (by intro k e; cases e), by simpa [madeCells] using h1⟩

theorem copy_new {w w1 : World} {x : Addr} {cap : Nat} {ss : List (List UInt8)} {ys : List Value} (hr : SRow w (some x) ss.length cap ss) (h1 : w1.ownsRow w.heap.size 9 1 (.slice (some ⟨w.heap.size, 0, none⟩) ss.length ss.length) ss.length ys) (h2 : w.grownBy w1 none) :
    ∃ w2, (Builtin.copy_ #[25, 25] 3 #[.slice (some ⟨w.heap.size, 0, none⟩) ss.length ss.length, .slice (some x) ss.length cap]).run Try.prog w1 = .ok (.int .i64 ss.length) w2 ∧
      w2.ownsRow w.heap.size 9 1 (.slice (some ⟨w.heap.size, 0, none⟩) ss.length ss.length) ss.length (ss.map encStr) ∧ Below w.heap.size w w2 := by
  rcases h1.2 with ⟨h', _⟩ | ⟨g, cap', cur, h', hb, hg, hnc, hcm, hcs, htake⟩
  · cases h'
  · simp only [Value.slice.injEq, Option.some.injEq, Addr.mk.injEq, and_true, true_and] at h'
    obtain ⟨rfl, rfl⟩ := h'
    have hB : Below w.heap.size w w1 := (Below.refl _ _).grown h2 (Nat.le_refl _) (by intro k e; cases e)
    have hrun := run_copy_row (P := Try.prog) w1 25 25 3 9 w.heap.size 0 ss.length ss.length x ss.length cap cur 9 (ss.map encStr) Try.underlying25 sizeS hg (by simp) (fun j v hj => cell_later hB (hr.cell x rfl j v hj)) (by simp; omega) (enc_one ss)
    rw [List.length_map] at hrun
    refine ⟨_, hrun, ?_, below_setRow hB (Nat.le_refl _) _⟩
    refine ⟨by simp, .inr ⟨w.heap.size, ss.length, _, rfl, hb, setRow_heap w1 w.heap.size _ _ 9 _ hg, Nat.le_refl _, hcm, ?_, ?_⟩⟩
    · simp; omega
    · simp

theorem compact_le (ts : List (List UInt8)) : (Lib.compact ts).length ≤ ts.length := by
  unfold Lib.compact Lib.compactUpTo
  rw [List.length_map]
  exact Nat.le_trans (List.length_filter_le _ _) (by simp)

theorem own_compact {w : World} {g : Nat} {ts : List (List UInt8)} {cur : Array Value} (q : Nat) (hg : w.heap[g]? = some (.cells cur 9 (0, 0))) (hcm : ts.length ≤ maxLen) (hcs : cur.size = ts.length * 1) :
    (putRow encStr (Sort.ahead w q) g 0 (Lib.compact ts ++ List.replicate (ts.length - (Lib.compact ts).length) []).toArray).ownsRow g 9 1 (.slice (some ⟨g, 0, none⟩) (Lib.compact ts).length ts.length) (Lib.compact ts).length ((Lib.compact ts).map encStr) := by
  have hle := compact_le ts
  have hh := heap_sorted (n := q) (os := #[]) (Lib.compact ts ++ List.replicate (ts.length - (Lib.compact ts).length) []).toArray hg
  rw [grow_empty] at hh
  refine ⟨by simp, .inr ⟨g, ts.length, _, rfl, Nat.le_refl _, hh, hle, hcm, by simp [putCells, hcs], ?_⟩⟩
  have ht := take_putCells cur (Lib.compact ts ++ List.replicate (ts.length - (Lib.compact ts).length) []) (by simp; omega)
  have := congrArg (List.take (Lib.compact ts).length) ht
  rw [List.take_take] at this
  simp at this
  rw [Nat.mul_one]
  exact this

set_option maxHeartbeats 800000 in
set_option maxRecDepth 100000 in
theorem sorted_some (x : Addr) (cap : Nat) (ss : List (List UInt8)) (w : World) (hr : SRow w (some x) ss.length cap ss) (hn : 0 < ss.length) (hl : ss.length ≤ 1000) :
    Calls Try.prog 39 #[.slice (some x) ss.length cap] w fun x w' => x = .returned (.slice (some ⟨w.heap.size, 0, none⟩) (srt ss).length ss.length) ∧ Below w.heap.size w w' ∧ w'.ownsRow w.heap.size 9 1 (.slice (some ⟨w.heap.size, 0, none⟩) (srt ss).length ss.length) (srt ss).length ((srt ss).map encStr) := by
  have hb1 : Try.t9.bytes * ss.length ≤ 281474976710656 := by show 16 * ss.length ≤ _; omega
  have hb2 : ss.length ≤ maxLen := by unfold maxLen; omega
  go_enter Try.func39, Try.ntmps39
  go_wp2_with (at_make; refine wpList_make_full _ rfl _ _ _ rfl w.heap.size 9 Try.t9 (.string ⟨#[]⟩) 1 Try.underlying25 infoS rfl rfl .i64 .i64 ss.length ss.length ss.length rfl rfl rfl rfl hb1 hb2 (Nat.le_refl _) ?_; intro w1 h1 h2; obtain ⟨w2, hcp, ho2, hB2⟩ := copy_new hr h1 h2; clear h1 h2)
  rcases ho2.2 with ⟨h', _⟩ | ⟨g, cap', cur, h', hb, hg, hnc, hcm, hcs, htake⟩
  · cases h'
  simp only [Value.slice.injEq, Option.some.injEq, Addr.mk.injEq, and_true, true_and] at h'
  obtain ⟨rfl, rfl⟩ := h'
  have hlt : w.heap.size < w2.heap.size := (Array.getElem?_eq_some_iff.1 hg).1
  refine (sort_any w.heap.size 0 ss.length ss w2 (holds_of_block hg (by simpa using htake)) hlt (by omega)).mono ?_
  rintro x w3 ⟨rfl, n3, os3, hw3⟩
  have ho3 := ownsRow_sorted (n := n3) (os := os3) (ts := ss.mergeSort fun x y => decide (x ≤ y)) (ss := ss) (by simp) hb hg hnc hcm hcs
  have hg3 := grownBy_sorted (w := w2) (g := w.heap.size) (n := n3) (os := os3) (ss.mergeSort fun x y => decide (x ≤ y)).toArray
  rw [← hw3] at ho3 hg3
  have hB3 : Below w.heap.size w w3 := hB2.trans ((Below.refl _ _).grown hg3 (by omega) (by intro k e; cases e; exact Nat.le_refl _))
  clear hw3 hg3 hcp hg ho2 htake
  generalize hts : (ss.mergeSort fun x y => decide (x ≤ y)) = ts at ho3
  have htl : ts.length = ss.length := by rw [← hts]; simp
  rw [← htl] at ho3 hcm hn hl
  have HT : Hid (srt ss = Lib.compact ts) := by rw [← hts]; rfl
  clear hts
  go_wp2_with fail
  rcases ho3.2 with ⟨h', _⟩ | ⟨g, cap', cur3, h', hb3, hg3, hnc3, hcm3, hcs3, htake3⟩
  · cases h'
  simp only [Value.slice.injEq, Option.some.injEq, Addr.mk.injEq, and_true, true_and] at h'
  obtain ⟨rfl, rfl⟩ := h'
  rw [← htl]
  refine (compact_any w.heap.size 0 ts.length ts w3 (holds_of_block hg3 (by simpa using htake3)) (by omega) (Nat.le_refl _)).mono ?_
  rintro x w4 ⟨rfl, q, hw4⟩
  have ho4 := own_compact q hg3 hcm3 hcs3
  have hB4 : Below w.heap.size w w4 := by
    have := grownBy_sorted (w := w3) (g := w.heap.size) (n := q) (os := #[]) (Lib.compact ts ++ List.replicate (ts.length - (Lib.compact ts).length) []).toArray
    rw [grow_empty, ← hw4] at this
    exact hB3.trans ((Below.refl _ _).grown this hB3.size (by intro k e; cases e; exact Nat.le_refl _))
  rw [← hw4] at ho4
  clear hw4 hg3 ho3
  go_wp2_with fail
  go_ret
  rw [HT.out]
  exact ⟨by rw [← htl]; rfl, hB4, by rw [← htl]; exact ho4⟩

/-- Sorted: each once, rising, in new memory. -/
theorem sorted_any (a : Option Addr) (len cap : Nat) (ss : List (List UInt8)) (w : World) (hr : SRow w a len cap ss) (hl : ss.length ≤ 1000) :
    Calls Try.prog 39 #[.slice a len cap] w fun x w' => x = .returned (.slice (some ⟨w.heap.size, 0, none⟩) (srt ss).length ss.length) ∧ Below w.heap.size w w' ∧ w'.ownsRow w.heap.size 9 1 (.slice (some ⟨w.heap.size, 0, none⟩) (srt ss).length ss.length) (srt ss).length ((srt ss).map encStr) := by
  obtain rfl := hr.n
  by_cases h0 : ss.length = 0
  · obtain rfl : ss = [] := List.eq_nil_of_length_eq_zero h0
    have e : srt [] = [] := by simp [srt, Lib.compact, Lib.compactUpTo]
    rw [e]
    exact sorted_nil a cap w
  · cases a with
    | none => exact absurd (hr.nil rfl) h0
    | some x => exact sorted_some x cap ss w hr (by omega) hl

end Go.Proofs.Ythcclkihfnjpfaa
