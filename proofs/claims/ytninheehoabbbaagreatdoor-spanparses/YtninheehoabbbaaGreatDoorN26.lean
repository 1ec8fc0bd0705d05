/-
  strings.IndexAny at ' |', any bytes: at eight bytes or fewer by its own loop, at more by the library's set; so what is left of any text.
-/
import Derived.Test.YtninheehoabbbaaGreatDoorN25
import Derived.Shelf.Strings.IndexAny
import Derived.Deep.LoopGhost
namespace Go.Proofs.YtninheehoabbbaaGreatDoor
set_option linter.unusedSimpArgs false
set_option linter.unusedVariables false
open Go.RowKit Go.Vr Go.Sort Go.Tx Go.Lib
attribute [local go_sem] setCellDrewN allocDrewN

theorem decode_tail (s : ByteArray) (pos j : Nat) (h1 : 1 ≤ j) (h2 : j < (Utf8.decode s pos).2) : pos + j < s.size ∧ 128 ≤ (s.get! (pos + j)).toNat := by
  have key : ∀ k, (decide (pos + k < s.size) && ((s.get! (pos + k)).toNat / 64 == 2)) = true → pos + k < s.size ∧ 128 ≤ (s.get! (pos + k)).toNat := by
    intro k hk
    rw [Bool.and_eq_true, decide_eq_true_eq, beq_iff_eq] at hk
    omega
  simp only [Utf8.decode] at h2
  split at h2
  · simp at h2; omega
  · split at h2
    · rename_i hc
      rw [Bool.and_eq_true] at hc
      split at h2 <;> simp at h2
      · obtain rfl : j = 1 := by omega
        exact key 1 hc.2
      · omega
    · split at h2
      · rename_i hc
        rw [Bool.and_eq_true, Bool.and_eq_true] at hc
        split at h2 <;> simp at h2
        · obtain rfl | rfl : j = 1 ∨ j = 2 := by omega
          · exact key 1 hc.1.2
          · exact key 2 hc.2
        · omega
      · split at h2
        · rename_i hc
          rw [Bool.and_eq_true, Bool.and_eq_true, Bool.and_eq_true] at hc
          split at h2 <;> simp at h2
          · obtain rfl | rfl | rfl : j = 1 ∨ j = 2 ∨ j = 3 := by omega
            · exact key 1 hc.1.1.2
            · exact key 2 hc.1.2
            · exact key 3 hc.2
          · omega
        · simp at h2; omega
theorem decode_in (s : ByteArray) (pos : Nat) (h : pos < s.size) (ha : 128 ≤ (s[pos]'h).toNat) : pos + (Utf8.decode s pos).2 ≤ s.size := by
  have h1 := (decode_high s pos h ha).2
  by_cases h2 : (Utf8.decode s pos).2 = 1
  · omega
  · have := (decode_tail s pos ((Utf8.decode s pos).2 - 1) (by omega) (by omega)).1
    omega
theorem no_high {s : ByteArray} {i : Nat} (h : i < s.size) (ha : 128 ≤ (s[i]'h).toNat) (hn : NoAny s.data.toList [32, 124] i) : NoAny s.data.toList [32, 124] (i + (Utf8.decode s i).2) := by
  intro j b hj hb
  by_cases h1 : j < i
  · exact hn j b h1 hb
  · have hjs : j < s.size := by
      have := (List.getElem?_eq_some_iff.1 hb).1
      rw [len_eq] at this; exact this
    have hbj : b = s[j] := by
      have e := Lib.data_getElem? s j hjs
      rw [e] at hb
      exact (Option.some.inj hb).symm
    have h128 : 128 ≤ b.toNat := by
      rw [hbj]
      by_cases h2 : j = i
      · subst h2; exact ha
      · have := (decode_tail s i (j - i) (by omega) (by omega)).2
        rw [show i + (j - i) = j by omega] at this
        have e : s.get! j = s[j] := by
          have := get_at s j hjs
          simpa using this
        rw [e] at this; exact this
    have h3 : b ≠ 32 := fun e => by rw [e] at h128; exact absurd h128 (by decide)
    have h4 : b ≠ 124 := fun e => by rw [e] at h128; exact absurd h128 (by decide)
    simp [h3, h4]

/-- The iterator moved on. -/
def iterTo (w : World) (N : Nat) (s : ByteArray) (p : Nat) : World := { w with heap := w.heap.setIfInBounds N (.stringIter s p) }
theorem iterTo_size (w : World) (N : Nat) (s : ByteArray) (p : Nat) : (iterTo w N s p).heap.size = w.heap.size := by simp [iterTo]
theorem iterTo_at (w : World) (N : Nat) (s : ByteArray) (p : Nat) (h : N < w.heap.size) : (iterTo w N s p).heap[N]? = some (.stringIter s p) := by simp [iterTo, h]
theorem run_next_at (P : Program) (w : World) (N : Nat) (s : ByteArray) (pos : Nat) (ty : TypeId) (hN : w.heap[N]? = some (.stringIter s pos)) (h : pos < s.size) :
    (Instr.next (.pointer (some ⟨N, 0, none⟩)) true ty).run P w = .ok (.tuple #[.bool true, .int .i64 pos, .int .i32 (Utf8.decode s pos).1]) (iterTo w N s (pos + (Utf8.decode s pos).2)) := by
  simp only [Instr.next, getObj, setObj, Sem.run_bind, Sem.run, hN, Result.andThen, h, if_true]
  simp [goInt, Sem.run, iterTo, hN]
theorem run_next_stop (P : Program) (w : World) (N : Nat) (s : ByteArray) (pos : Nat) (ty : TypeId) (hN : w.heap[N]? = some (.stringIter s pos)) (h : ¬ pos < s.size) :
    (Instr.next (.pointer (some ⟨N, 0, none⟩)) true ty).run P w = .ok (.tuple #[.bool false]) w := by
  simp [Instr.next, getObj, Sem.run, hN, h]
theorem iterTo_below {w W : World} {s : ByteArray} {p : Nat} (h : RowKit.Below w.heap.size w W) : RowKit.Below w.heap.size w (iterTo W w.heap.size s p) := by
  obtain ⟨h1, h2, h3, h4, h5⟩ := h
  refine ⟨h1, h2, h3, by rw [iterTo_size]; exact h4, fun k hk => ?_⟩
  rw [← h5 k hk]
  have : ¬ w.heap.size = k := by omega
  simp [iterTo, Array.getElem?_setIfInBounds, this]

end Go.Proofs.YtninheehoabbbaaGreatDoor
