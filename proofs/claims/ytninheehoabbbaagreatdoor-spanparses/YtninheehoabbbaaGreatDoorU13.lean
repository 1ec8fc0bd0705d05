/-
  Contract of Pseudo.
-/
import Derived.Test.YtninheehoabbbaaGreatDoorU12
import Derived.Deep.DeepCutAuto
namespace Go.Proofs.YtninheehoabbbaaGreatDoor
set_option linter.unusedSimpArgs false
set_option linter.unusedVariables false
open Go.RowKit Go.Vr Go.Sort Go.Tx Go.Lib
attribute [local go_sem] setCellDrewN allocDrewN

theorem cutIn {p q : Prop} (h : p) (k : p → q) : q := k h
/-- A version just laid, all noughts. -/
structure ZeroAt (w : World) (N : Nat) : Prop where
  lt : N < w.heap.size
  c0 : w.cell? ⟨N, 0, none⟩ = some (.int .i64 0)
  c1 : w.cell? ⟨N, 1, none⟩ = some (.int .i64 0)
  c2 : w.cell? ⟨N, 2, none⟩ = some (.int .i64 0)
  c3 : w.cell? ⟨N, 3, none⟩ = some (.string ⟨#[]⟩)
  f0 : w.frozen? ⟨N, 0, none⟩ = false
  f1 : w.frozen? ⟨N, 1, none⟩ = false
  f2 : w.frozen? ⟨N, 2, none⟩ = false
  f3 : w.frozen? ⟨N, 3, none⟩ = false
theorem ZeroAt.new (w : World) : ZeroAt (w.alloc (.cells #[.int .i64 0, .int .i64 0, .int .i64 0, .string ⟨#[]⟩] 37)) w.heap.size :=
  ⟨by simp, by simp [go_sem], by simp [go_sem], by simp [go_sem], by simp [go_sem], by simp [go_sem], by simp [go_sem], by simp [go_sem], by simp [go_sem]⟩
theorem ZeroAt.newd (w : World) : ZeroAt (w.alloc (.cells #[.int .i64 0, .int .i64 0, .int .i64 0, .string ⟨#[]⟩] 37)).drew w.heap.size :=
  ⟨by simp, by simp [go_sem], by simp [go_sem], by simp [go_sem], by simp [go_sem], by simp [go_sem], by simp [go_sem], by simp [go_sem], by simp [go_sem]⟩
theorem ZeroAt.later {w w' : World} {N : Nat} (h : ZeroAt w N) (b : Below w.heap.size w w') : ZeroAt w' N :=
  ⟨Nat.lt_of_lt_of_le h.lt b.size, cellLater b h.c0, cellLater b h.c1, cellLater b h.c2, cellLater b h.c3, (b.frozen (p := ⟨N, 0, none⟩) h.lt).trans h.f0, (b.frozen (p := ⟨N, 1, none⟩) h.lt).trans h.f1, (b.frozen (p := ⟨N, 2, none⟩) h.lt).trans h.f2, (b.frozen (p := ⟨N, 3, none⟩) h.lt).trans h.f3⟩

end Go.Proofs.YtninheehoabbbaaGreatDoor
