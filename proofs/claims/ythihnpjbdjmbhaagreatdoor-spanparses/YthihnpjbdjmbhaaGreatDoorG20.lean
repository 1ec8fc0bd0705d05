/-
  Contract of known.
-/
import Derived.Test.YthihnpjbdjmbhaaGreatDoorG19

namespace Go.Proofs.YthihnpjbdjmbhaaGreatDoor
set_option linter.unusedSimpArgs false
set_option linter.unusedVariables false
open Go.RowKit Go.Vr Go.Sort Go.Tx Go.Lib
attribute [local go_sem] setCellDrewN allocDrewN

/-- The chapter's example: v1.2.3. -/
def kv : V := ⟨1, 2, 3, ⟨#[]⟩⟩
/-- What is behind it. -/
def kp : ByteArray := ⟨#[48, 46, 48, 48, 48, 48, 48, 48, 48, 48, 48, 48, 48, 48, 48, 53, 45, 48, 49, 50, 51, 52, 53, 54, 55, 56, 57, 97, 98]⟩
theorem k_parse : parse (ByteArray.mk #[118, 49, 46, 50, 46, 51]).data.toList = some kv := by decide +kernel
theorem k_ok : kv.ok = true := by decide +kernel
theorem k_txt : str (txt kv) = ⟨#[118, 49, 46, 50, 46, 51]⟩ := by decide +kernel
theorem k_pver : pver true kv 5 (ByteArray.mk #[48, 49, 50, 51, 52, 53, 54, 55, 56, 57, 97, 98, 99, 100, 101, 102]).data.toList = ⟨1, 2, 4, kp⟩ := by decide +kernel
theorem k_pok : V.ok ⟨1, 2, 4, kp⟩ = true := by decide +kernel
theorem k_pseudo : pseudo true kv 5 (ByteArray.mk #[48, 49, 50, 51, 52, 53, 54, 55, 56, 57, 97, 98, 99, 100, 101, 102]).data.toList = some ⟨1, 2, 4, kp⟩ := by decide +kernel
theorem k_behind : behind kp.data.toList = some (5, [48, 49, 50, 51, 52, 53, 54, 55, 56, 57, 97, 98]) := by decide +kernel
theorem k_cmp : cmpV kv ⟨1, 2, 4, kp⟩ = -1 := by decide +kernel
theorem k_max : maxV [kv, ⟨1, 2, 4, kp⟩] = ⟨1, 2, 4, kp⟩ := by decide +kernel


end Go.Proofs.YthihnpjbdjmbhaaGreatDoor
