/-
  Insertion: a text put in where it belongs.
-/
import Derived.Test.YthcclkihfnjpfaaM4
namespace Go.Tx
set_option linter.unusedVariables false

theorem ins_same (l ts : List Bs) (x : Bs) (h : srt l = ts) (hx : x ∈ ts) : srt (l ++ [x]) = ts := by
  refine srt_unique _ _ (h ▸ srt_rises l) fun y => ?_
  rw [← h, srt_mem]
  have : x ∈ l := by rw [← h, srt_mem] at hx; exact hx
  simp
  rintro rfl; exact this

theorem ins_new (l ts : List Bs) (x : Bs) (j : Nat) (h : srt l = ts) (hj : j ≤ ts.length) (hi : ∀ i, j ≤ i → i < ts.length → x < ts.getD i []) (lo : ∀ i, i < j → ts.getD i [] < x) : srt (l ++ [x]) = ts.take j ++ [x] ++ ts.drop j := by
  have hr : ts.Pairwise (· < ·) := h ▸ srt_rises l
  have h1 : ∀ a ∈ ts.take j, a < x := by
    intro a ha
    obtain ⟨i, hl, rfl⟩ := List.getElem_of_mem ha
    rw [List.length_take] at hl
    have := lo i (by omega)
    rw [List.getElem_take]
    simpa [List.getD, List.getElem?_eq_getElem (show i < ts.length by omega)] using this
  have h2 : ∀ b ∈ ts.drop j, x < b := by
    intro b hb
    obtain ⟨i, hl, rfl⟩ := List.getElem_of_mem hb
    rw [List.length_drop] at hl
    have := hi (j + i) (by omega) (by omega)
    rw [List.getElem_drop]
    simpa [List.getD, List.getElem?_eq_getElem (show j + i < ts.length by omega)] using this
  refine srt_unique _ _ ?_ fun y => ?_
  · rw [List.append_assoc, List.pairwise_append]
    refine ⟨hr.sublist (List.take_sublist _ _), ?_, fun a ha b hb => ?_⟩
    · rw [List.singleton_append, List.pairwise_cons]
      exact ⟨h2, hr.sublist (List.drop_sublist _ _)⟩
    · rw [List.singleton_append, List.mem_cons] at hb
      rcases hb with rfl | hb
      · exact h1 a ha
      · exact bs_lt_trans (h1 a ha) (h2 b hb)
  · have hm : y ∈ ts ↔ y ∈ ts.take j ∨ y ∈ ts.drop j := by
      rw [← List.mem_append, List.take_append_drop]
    have hl : y ∈ l ↔ y ∈ ts := by rw [← h, srt_mem]
    simp only [List.mem_append, List.mem_singleton]
    rw [hl, hm]
    constructor
    · rintro ((h | h) | h)
      · exact .inl (.inl h)
      · exact .inr h
      · exact .inl (.inr h)
    · rintro ((h | h) | h)
      · exact .inl (.inl h)
      · exact .inr h
      · exact .inl (.inr h)

theorem srt_nil : srt [] = [] := by simp [srt, Lib.compact, Lib.compactUpTo]

/-- Rising: a smaller place holds a smaller text. -/
theorem rise_at (ts : List Bs) (h : ts.Pairwise (· < ·)) (i j : Nat) (hij : i < j) (hj : j < ts.length) : ts.getD i [] < ts.getD j [] := by
  have := List.pairwise_iff_getElem.1 h i j (by omega) hj hij
  simpa [List.getD, List.getElem?_eq_getElem (show i < ts.length by omega), List.getElem?_eq_getElem hj] using this

end Go.Tx
