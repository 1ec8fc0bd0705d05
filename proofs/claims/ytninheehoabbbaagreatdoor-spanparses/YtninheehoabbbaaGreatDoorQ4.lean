/-
  Contracts of the third law's Raw, Make.
-/
import Derived.Test.YtninheehoabbbaaGreatDoorQ3
import Derived.Test.YtninheehoabbbaaGreatDoorQ0
import Derived.Test.YtninheehoabbbaaGreatDoorM24
import Derived.Test.YtninheehoabbbaaGreatDoorN10
import Derived.Test.YtninheehoabbbaaGreatDoorK1
namespace Go.Proofs.YtninheehoabbbaaGreatDoor
set_option linter.unusedSimpArgs false
set_option linter.unusedVariables false
open Go.RowKit Go.Vr Go.Sort Go.Tx Go.Lib
attribute [local go_sem] setCellDrewN allocDrewN

theorem ERow.newP (w : World) (x : Pt) (T : TypeId) (n : Nat) (h : n = w.heap.size) : ERow EP (w.alloc (.cells x.row.toArray T)) (some ⟨n, 0, .none⟩) 1 [x] := by subst h; exact ERow.new EP w x T
theorem okp_app {ps : List Pt} {v u : V} {x y z : Bool} (h : ∀ q ∈ ps, okPt q) (hv : v.ok = true) (hu : u.ok = true) : ∀ q ∈ ps ++ [⟨v.a, v.b, v.c, v.p, u.a, u.b, u.c, u.p, x, y, z⟩], okPt q := by
  intro q hq
  rcases List.mem_append.1 hq with hq | hq
  · exact h q hq
  · rw [List.mem_singleton.1 hq]; exact ⟨hv, hu⟩

end Go.Proofs.YtninheehoabbbaaGreatDoor
