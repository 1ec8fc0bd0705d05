/-
  Contracts of rightTime, rightId, stamp.
-/
import Derived.Test.YtninheehoabbbaaGreatDoorU10
import Derived.Lib.ItoaLen
namespace Go.Proofs.YtninheehoabbbaaGreatDoor
set_option linter.unusedSimpArgs false
set_option linter.unusedVariables false
open Go.RowKit Go.Vr Go.Sort Go.Tx Go.Lib
attribute [local go_sem] setCellDrewN allocDrewN

theorem repeat_one (c : UInt8) : ∀ n, repeatL [c] n = List.replicate n c
  | 0 => rfl
  | n + 1 => by rw [repeatL, repeat_one c n, List.replicate_succ]; rfl

end Go.Proofs.YtninheehoabbbaaGreatDoor
