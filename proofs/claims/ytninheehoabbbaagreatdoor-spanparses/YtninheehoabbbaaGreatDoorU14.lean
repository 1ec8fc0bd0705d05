/-
  Contract of Behind.
-/
import Derived.Test.YtninheehoabbbaaGreatDoorU13
import Derived.Test.YtninheehoabbbaaGreatDoorM13
namespace Go.Proofs.YtninheehoabbbaaGreatDoor
set_option linter.unusedSimpArgs false
set_option linter.unusedVariables false
open Go.RowKit Go.Vr Go.Sort Go.Tx Go.Lib
attribute [local go_sem] setCellDrewN allocDrewN

/-- What Behind answers. -/
def bret (o : Option (Int × Bs)) : Value := match o with
  | none => .tuple #[.int .i64 0, .string ⟨#[]⟩, .bool false]
  | some (n, i) => .tuple #[.int .i64 n, .string (str i), .bool true]

theorem bret_some (n : Int) (y : ByteArray) : Ending.returned (.tuple #[.int .i64 n, .string y, .bool true]) = .returned (bret (some (n, y.data.toList))) := by
  show _ = Ending.returned (.tuple #[.int .i64 n, .string (str y.data.toList), .bool true])
  rw [str_of]

set_option maxHeartbeats 400000 in
theorem madeDig_any (s : ByteArray) (W : World) (hs : s.size ≤ 100000) :
    Calls Tryz.prog 111 #[.string s, .slice (some ⟨W.heap.size, 0, none⟩) 1 1] (W.alloc (.cells #[.string ⟨#[48, 49, 50, 51, 52, 53, 54, 55, 56, 57]⟩] 9)) fun e w' => e = .returned (.bool (s.data.toList.all isDig)) ∧ Below W.heap.size W w' := by
  have := made_any s W.heap.size 0 1 1 [digitsL] _ hs (row_new W [digitsL] 1) (by omega)
  rw [dig_is] at this
  generalize s.data.toList.all isDig = q at this ⊢
  simp [digitsL] at this
  exact this.mono fun e w' h => ⟨h.1, ((Below.refl _ _).alloc (Nat.le_refl _) _).trans (h.2.mono (by omega))⟩

end Go.Proofs.YtninheehoabbbaaGreatDoor
