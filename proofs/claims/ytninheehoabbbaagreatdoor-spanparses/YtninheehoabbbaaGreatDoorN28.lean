/-
  What is left of any text, strings.IndexAny at it; []byte(s), string(b).
-/
import Derived.Test.YtninheehoabbbaaGreatDoorN27
import Derived.Test.YtninheehoabbbaaGreatDoorQ22
import Derived.Test.YtninheehoabbbaaGreatDoorQ15
import Derived.Laws.IdiomStrings
namespace Go.Proofs.YtninheehoabbbaaGreatDoor
set_option linter.unusedSimpArgs false
set_option linter.unusedVariables false
open Go.RowKit Go.Tx Go.Joins Go.Vr Go.Sort Go.Lib

theorem ia_any (s : ByteArray) (hs : s.size ≤ 1000000) : IA s := by
  intro p W hp
  have hy : (s.extract p s.size).data.toList = s.data.toList.drop p := by
    simp only [ByteArray.data_extract, Array.toList_extract, List.extract_eq_take_drop]
    rw [List.take_of_length_le (by rw [List.length_drop, len_eq]; exact Nat.le_refl _)]
  have hz : (s.extract p s.size).size ≤ 1000000 := by rw [← len_eq, hy, List.length_drop, len_eq]; omega
  by_cases h8 : (s.extract p s.size).size ≤ 8
  · have h := any_short (s.extract p s.size) W h8
    rw [hy] at h
    exact h
  · have h116 : (Tryz.prog.info? (Tryz.lays153_ren.t 116)).map (fun i => (i.zero, i.size)) = some (some (.agg (Array.replicate 256 (.bool false))), 256) := by kernel_rfl
    have h := Any.strings_IndexAny_long Tryz.lays153 (zero_of_info h116).1 (zero_of_info h116).2 (s.extract p s.size) ⟨#[32, 124]⟩ W (by decide) (by omega) (by omega) (by decide)
      (fun j b hj => by
        have hm := List.mem_of_getElem? hj
        have : b = 32 ∨ b = 124 := by simpa using hm
        rcases this with rfl | rfl <;> decide)
    rw [hy] at h
    refine h.mono ?_
    rintro e w' ⟨h1, rfl⟩
    exact ⟨h1, ((RowKit.Below.refl _ _).alloc (Nat.le_refl _) _).alloc (by simp) _⟩

/-- string(b) of a slice of bytes that came in. -/
theorem Row.conv {w : World} {a : Option Addr} {len cap : Nat} {xs : List Int} (h : Row .u8 w a len cap xs) : (convert 25 9 (.slice a len cap)).run Tryz.prog w = .ok (.string (strOfNums xs)) w := by
  cases a with
  | none =>
    obtain ⟨rfl, rfl⟩ := h.nil rfl
    obtain rfl : xs = [] := List.eq_nil_of_length_eq_zero h.n
    exact run_convert_bytes_nil w 25 5 Tryz.underlying25 Tryz.underlying5 0 0 9 Tryz.underlying9
  | some x =>
    by_cases h0 : len = 0
    · subst h0
      obtain rfl : xs = [] := List.eq_nil_of_length_eq_zero h.n
      rw [run_convert_bytes_string w 25 9 5 (some x) 0 cap Tryz.underlying25 Tryz.underlying5 Tryz.underlying9, run_bytesToString w x 0 cap [] (run_loadCells_list (P := Tryz.prog) w x [] (fun j v hj => by simp at hj))]
      rfl
    · obtain ⟨b, off, spot⟩ := x
      have hc := h.cell _ rfl 0 (by omega)
      have hspot : spot = none := by simpa [Addr.add] using World.cell?_spot hc
      subst hspot
      exact run_convert_bytes_arg w 25 5 Tryz.underlying25 Tryz.underlying5 b off len cap xs h.n (fun i hi => by have := h.cell _ rfl i hi; rw [addr_add] at this; exact this) 9 Tryz.underlying9

theorem bd8 {n : Int} (h : (Lit.int .u8 n).wf = true) : 0 ≤ n ∧ n ≤ 255 := bounds_u8 h

/-- []byte(s): a row of its own. -/
theorem conv_bytes (s : ByteArray) (w : World) (hs : s.size ≤ 1000) : ∃ (cap : Nat) (w' : World) (xs : List Int), (convert 9 25 (.string s)).run Tryz.prog w = .ok (.slice (some ⟨w.heap.size, 0, none⟩) s.size cap) w' ∧ Row .u8 w' (some ⟨w.heap.size, 0, none⟩) s.size cap xs ∧ (∀ j, j < s.size → w'.frozen? ⟨w.heap.size, j, none⟩ = false) ∧ RowKit.Below w.heap.size w w' ∧ w.heap.size < w'.heap.size := by
  refine ⟨_, _, s.data.toList.map (fun c => (c.toNat : Int)), run_bytes_of_string w 9 25 5 s Tryz.underlying9 Tryz.underlying25 Tryz.underlying5, ?_, ?_, ?_, ?_⟩
  · refine ⟨by simp, (fun e => nomatch e), grownCap_ge _ _ _ _, grownCap_le_maxLen _ _ _ _ (by unfold maxLen; omega), fun x e i hi => ?_, fun z hz => ?_⟩
    · obtain rfl : ⟨w.heap.size, 0, none⟩ = x := by simpa using e
      rw [addr_add, Nat.zero_add]
      have h1 := World.cell?_alloc_mark w.drew (bytesRow s (grownCap w s.size 0 5)) 5 ((bytesRow s (grownCap w s.size 0 5)).size, (bytesRow s (grownCap w s.size 0 5)).size + 1) i
      have h2 := bytesRow_at s (grownCap w s.size 0 5) i hi
      have hi2 : i < s.data.toList.length := by rw [len_eq]; exact hi
      refine (h1.trans h2).trans ?_
      simp [List.getD, List.getElem?_eq_getElem hi2]
    · simp at hz
      obtain ⟨c, _, rfl⟩ := hz
      have := c.toNat_lt
      exact WalkArith.wf_u8 (by omega)
  · intro j hj
    have h1 := World.frozen?_alloc_mark w.drew (bytesRow s (grownCap w s.size 0 5)) 5 (bytesRow s (grownCap w s.size 0 5)).size ((bytesRow s (grownCap w s.size 0 5)).size + 1) j
    refine Eq.trans h1 ?_
    have : s.size ≤ (bytesRow s (grownCap w s.size 0 5)).size := by simp [bytesRow]
    simp; omega
  · exact ((RowKit.Below.refl _ _).drew).alloc (by simp) _
  · simp

theorem Row.put {w : World} {N len cap : Nat} {xs : List Int} (h : Row .u8 w (some ⟨N, 0, none⟩) len cap xs) (j : Nat) (hj : j < len) (n : Int) (hn : (Lit.int .u8 n).wf = true) : Row .u8 (w.setCell ⟨N, j, none⟩ (.int .u8 n)) (some ⟨N, 0, none⟩) len cap (xs.set j n) := by
  refine ⟨by rw [List.length_set]; exact h.n, (fun e => nomatch e), h.le, h.mx, fun x e i hi => ?_, fun z hz => ?_⟩
  · obtain rfl : ⟨N, 0, none⟩ = x := by simpa using e
    have hc := h.cell _ rfl i hi
    have hcj := h.cell _ rfl j hj
    rw [addr_add, Nat.zero_add] at hc hcj ⊢
    have hix : i < xs.length := by rw [h.n]; exact hi
    by_cases e : j = i
    · subst e
      rw [World.cell?_setCell_same w ⟨N, j, none⟩ _ hcj]
      simp [List.getD, hix]
    · have ho := World.cell?_setCell_other (w := w) (a := ⟨N, j, none⟩) (b := ⟨N, i, none⟩) (v := .int .u8 n) (by simp)
      rw [ho, hc]
      simp [List.getD, e]
  · rcases List.mem_or_eq_of_mem_set hz with h1 | h1
    · exact h.wf z h1
    · rw [h1]; exact hn


end Go.Proofs.YtninheehoabbbaaGreatDoor
