/-
  strings.IndexAny at texts of ASCII bytes.
-/
import Derived.Test.YtninheehoabbbaaGreatDoorN22
namespace Go.Proofs.YtninheehoabbbaaGreatDoor
set_option linter.unusedSimpArgs false
set_option linter.unusedVariables false
open Go.RowKit Go.Vr Go.Sort Go.Tx Go.Lib

theorem ia_ascii (s : ByteArray) (hs : s.size ≤ 1000000) (ha : ∀ b ∈ s.data.toList, b.toNat < 128) : IA s := by
  intro p W hp
  have hy : (s.extract p s.size).data.toList = s.data.toList.drop p := by
    simp only [ByteArray.data_extract, Array.toList_extract, List.extract_eq_take_drop]
    rw [List.take_of_length_le (by rw [List.length_drop, len_eq]; exact Nat.le_refl _)]
  have hz : (s.extract p s.size).size ≤ 1000000 := by rw [← len_eq, hy, List.length_drop, len_eq]; omega
  have h := Any.strings_IndexAny_laid Tryz.lays153 (by kernel_rfl) (s.extract p s.size) ⟨#[32, 124]⟩ W (by omega) (by decide)
    (fun j b hj => by rw [hy] at hj; exact ha b (List.mem_of_mem_drop (List.mem_of_getElem? hj)))
    (fun j b hj => by
      have hm := List.mem_of_getElem? hj
      have : b = 32 ∨ b = 124 := by simpa using hm
      rcases this with rfl | rfl <;> decide)
  rw [hy] at h
  exact h
end Go.Proofs.YtninheehoabbbaaGreatDoor
