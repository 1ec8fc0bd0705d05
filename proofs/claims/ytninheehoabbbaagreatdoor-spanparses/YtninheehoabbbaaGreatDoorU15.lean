/-
  Rows of versions; contracts of slices.MaxFunc by Cmp, of Max.
-/
import Derived.Test.YtninheehoabbbaaGreatDoorU13
namespace Go.Proofs.YtninheehoabbbaaGreatDoor
set_option linter.unusedSimpArgs false
set_option linter.unusedVariables false
open Go.RowKit Go.Vr Go.Sort Go.Tx Go.Lib
attribute [local go_sem] setCellDrewN allocDrewN

/-- A version in memory. -/
structure VerAt (w : World) (b o : Nat) (v : V) : Prop where
  c0 : w.cell? ⟨b, o, none⟩ = some (.int .i64 v.a)
  c1 : w.cell? ⟨b, o + 1, none⟩ = some (.int .i64 v.b)
  c2 : w.cell? ⟨b, o + 2, none⟩ = some (.int .i64 v.c)
  c3 : w.cell? ⟨b, o + 3, none⟩ = some (.string v.p)
theorem VerAt.later {w w' : World} {b o : Nat} {v : V} (h : VerAt w b o v) (hb : Below w.heap.size w w') : VerAt w' b o v :=
  ⟨cellLater hb h.c0, cellLater hb h.c1, cellLater hb h.c2, cellLater hb h.c3⟩

/-- A variable of the call's own that holds a version. -/
structure VarAt (w : World) (N : Nat) (v : V) : Prop where
  lt : N < w.heap.size
  c0 : w.cell? ⟨N, 0, none⟩ = some (.int .i64 v.a)
  c1 : w.cell? ⟨N, 1, none⟩ = some (.int .i64 v.b)
  c2 : w.cell? ⟨N, 2, none⟩ = some (.int .i64 v.c)
  c3 : w.cell? ⟨N, 3, none⟩ = some (.string v.p)
  f0 : w.frozen? ⟨N, 0, none⟩ = false
  f1 : w.frozen? ⟨N, 1, none⟩ = false
  f2 : w.frozen? ⟨N, 2, none⟩ = false
  f3 : w.frozen? ⟨N, 3, none⟩ = false
theorem VarAt.later {w w' : World} {N : Nat} {v : V} (h : VarAt w N v) (b : Below w.heap.size w w') : VarAt w' N v :=
  ⟨Nat.lt_of_lt_of_le h.lt b.size, cellLater b h.c0, cellLater b h.c1, cellLater b h.c2, cellLater b h.c3, (b.frozen (p := ⟨N, 0, none⟩) h.lt).trans h.f0, (b.frozen (p := ⟨N, 1, none⟩) h.lt).trans h.f1, (b.frozen (p := ⟨N, 2, none⟩) h.lt).trans h.f2, (b.frozen (p := ⟨N, 3, none⟩) h.lt).trans h.f3⟩
theorem VarAt.new (w : World) (v : V) : VarAt (w.alloc (.cells #[.int .i64 v.a, .int .i64 v.b, .int .i64 v.c, .string v.p] 37)) w.heap.size v :=
  ⟨by simp, by simp [go_sem], by simp [go_sem], by simp [go_sem], by simp [go_sem], by simp [go_sem], by simp [go_sem], by simp [go_sem], by simp [go_sem]⟩
/-- Stored anew. -/
def putV (w : World) (N : Nat) (v : V) : World := (((w.setCell ⟨N, 0, none⟩ (.int .i64 v.a)).setCell ⟨N, 1, none⟩ (.int .i64 v.b)).setCell ⟨N, 2, none⟩ (.int .i64 v.c)).setCell ⟨N, 3, none⟩ (.string v.p)
theorem VarAt.put {w : World} {N : Nat} {u : V} (h : VarAt w N u) (v : V) : VarAt (putV w N v) N v := by
  obtain ⟨lt, c0, c1, c2, c3, f0, f1, f2, f3⟩ := h
  unfold putV
  exact ⟨by simpa [World.setCell] using lt, by simp [go_sem, c0, c1, c2, c3], by simp [go_sem, c0, c1, c2, c3], by simp [go_sem, c0, c1, c2, c3], by simp [go_sem, c0, c1, c2, c3], by simp [go_sem, f0], by simp [go_sem, f1], by simp [go_sem, f2], by simp [go_sem, f3]⟩
theorem VarAt.far {w : World} {N M : Nat} {u : V} (h : VarAt w M u) (v : V) (hne : N ≠ M) : VarAt (putV w N v) M u := by
  obtain ⟨lt, c0, c1, c2, c3, f0, f1, f2, f3⟩ := h
  unfold putV
  exact ⟨by simpa [World.setCell] using lt, by simp [go_sem, c0, hne], by simp [go_sem, c1, hne], by simp [go_sem, c2, hne], by simp [go_sem, c3, hne], by simp [go_sem, f0], by simp [go_sem, f1], by simp [go_sem, f2], by simp [go_sem, f3]⟩
theorem putV_below {B : Nat} {w w' : World} {N : Nat} (h : Below B w w') (hB : B ≤ N) (v : V) : Below B w (putV w' N v) :=
  (((h.setCell hB _).setCell hB _).setCell hB _).setCell hB _

theorem cmp_enters : ∀ args w, (callFunc 61 args).run Tryz.prog w = .ok (.enter 61 args) w := enters_of Tryz.func61 (by kernel_rfl) rfl

theorem vtake (vs : List V) (k : Nat) (h : k < vs.length) : vs.take (k + 1) = vs.take k ++ [vs.getD k V.zero] := by
  rw [List.take_add_one]
  simp [List.getD, List.getElem?_eq_getElem h]
theorem vmem (vs : List V) (k : Nat) (h : k < vs.length) : vs.getD k V.zero ∈ vs := by
  rw [List.getD_eq_getElem?_getD, List.getElem?_eq_getElem h]; exact List.getElem_mem _
theorem maxV_snoc (vs : List V) (v : V) (h : vs ≠ []) : maxV (vs ++ [v]) = if 0 < cmpV v (maxV vs) then v else maxV vs := by
  cases vs with
  | nil => exact absurd rfl h
  | cons x l => show (l ++ [v]).foldl maxF x = _; rw [List.foldl_append]; rfl

end Go.Proofs.YtninheehoabbbaaGreatDoor
