/-
  Contracts of the reference's digits and word.
-/
import Derived.Test.YtcoakjgeadkfoaaDoorV1
namespace Go.Proofs.YtcoakjgeadkfoaaDoor
set_option linter.unusedVariables false
open Go.RowKit Go.Vr

theorem all_take_succ (p : UInt8 → Bool) (s : ByteArray) (k : Nat) (h : k < s.size) : (s.data.toList.take (k + 1)).all p = ((s.data.toList.take k).all p && p s[k]) := by rw [Tx.take_snoc s k h]; simp [List.all_append]
theorem all_not (p : UInt8 → Bool) (s : ByteArray) (k : Nat) (h : k < s.size) (hb : p s[k] = false) : s.data.toList.all p = false := by
  have hm : s[k] ∈ s.data.toList := by
    have : s[k] = s.data.toList[k]'(by simpa using h) := rfl
    rw [this]; exact List.getElem_mem _
  rw [List.all_eq_false]
  exact ⟨_, hm, by simp [hb]⟩
theorem isEmpty_eq (s : ByteArray) : s.data.toList.isEmpty = decide (s.size = 0) := by
  have := Tx.len_eq s
  cases e : s.data.toList with
  | nil => rw [e] at this; simp at this; simp [← this]
  | cons c l => rw [e] at this; simp only [List.length_cons] at this; rw [decide_eq_false (by omega)]; rfl
theorem digs_eq (s : ByteArray) : digs s.data.toList = (decide (s.size ≠ 0) && s.data.toList.all Tx.isDig) := by
  unfold digs
  rw [isEmpty_eq]; simp
theorem toList_data (s : ByteArray) : s.toList = s.data.toList := by obtain ⟨⟨l⟩⟩ := s; simp
theorem empty_eq (s : ByteArray) : s.toList.isEmpty = decide (s.size = 0) := by rw [toList_data, isEmpty_eq]

end Go.Proofs.YtcoakjgeadkfoaaDoor
