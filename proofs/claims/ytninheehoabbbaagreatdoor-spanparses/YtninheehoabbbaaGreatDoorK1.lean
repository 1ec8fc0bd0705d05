/-
  Contracts of the third law's within and known.
-/
import Derived.Test.YtninheehoabbbaaGreatDoorN23
import Derived.Test.YtninheehoabbbaaGreatDoorM20
import Derived.Test.YtninheehoabbbaaGreatDoorU18
import Derived.Test.YtninheehoabbbaaGreatDoorV9
namespace Go.Proofs.YtninheehoabbbaaGreatDoor
set_option linter.unusedSimpArgs false
set_option linter.unusedVariables false
open Go.RowKit Go.Vr Go.Sort Go.Tx Go.Lib
attribute [local go_sem] setCellDrewN allocDrewN

set_option maxHeartbeats 400000 in
theorem within3_any (a n : Int) (w : World) (h1 : 1 ≤ n) (h2 : n ≤ 4611686018427387904) (h3 : -9223372036854775808 ≤ a) (h4 : a ≤ 9223372036854775807) :
    Calls Tryz.prog 6 #[.int .i64 a, .int .i64 n] w fun e w' => e = .returned (.int .i64 (a % n)) ∧ w' = w := by
  obtain ⟨hb1, hb2⟩ := Tx.tmod_bd a n h1
  go_enter Tryz.func6, Tryz.ntmps6
  go_wp2
  · go_ret
    exact ⟨ret_int (Tx.tmod_dn a n h1 (by assumption)), rfl⟩
  · go_ret
    exact ⟨ret_int (Tx.tmod_up a n h1 (by assumption)), rfl⟩
theorem within3 (a n : Int) (w : World) (h1 : 1 ≤ n) (h2 : n ≤ 4611686018427387904) (h3 : -9223372036854775808 ≤ a) (h4 : a ≤ 9223372036854775807) :
    Calls Tryz.prog 6 #[.int .i64 a, .int .i64 n] w fun e w' => ∃ k : Nat, e = .returned (.int .i64 k) ∧ (k : Int) < n ∧ Hid ((k : Int) = a % n) ∧ w' = w := by
  refine (within3_any a n w h1 h2 h3 h4).mono ?_
  rintro e w' ⟨rfl, rfl⟩
  have b1 := Int.emod_nonneg a (b := n) (by omega)
  have b2 := Int.emod_lt_of_pos a (b := n) (by omega)
  exact ⟨(a % n).toNat, by rw [Int.toNat_of_nonneg b1], by omega, Int.toNat_of_nonneg b1, rfl⟩

/-- The chapter's example: ^v1.2.3; v1.9.0. -/
def kS : Sp.S := (some (⟨1, 2, 3, ⟨#[]⟩⟩, false), some (⟨2, 0, 0, ⟨#[48]⟩⟩, false))
def kV : V := ⟨1, 9, 0, ⟨#[]⟩⟩
def kN : List Sp.S := [(Sp.start, some (⟨1, 2, 3, ⟨#[]⟩⟩, false)), (some (⟨2, 0, 0, ⟨#[48]⟩⟩, false), none)]
theorem k3_parse : Sp.parseS (ByteArray.mk #[94, 118, 49, 46, 50, 46, 51]).data.toList = (some [kS], 7) := Prod.ext (by decide +kernel) (by decide +kernel)
theorem k3_ver : parse (ByteArray.mk #[118, 49, 46, 57, 46, 48]).data.toList = some kV := by decide +kernel
theorem k3_vok : kV.ok = true := by decide +kernel
theorem k3_text : str (tAll [kS]) = ⟨#[91, 118, 49, 46, 50, 46, 51, 44, 118, 50, 46, 48, 46, 48, 45, 48, 41]⟩ := by decide +kernel
theorem k3_none : str (tAll []) = ⟨#[45]⟩ := by decide +kernel
theorem k3_has : [kS].any (inSp (some (kV, false))) = true := by decide +kernel
theorem k3_hasn : kN.any (inSp (some (kV, false))) = false := by decide +kernel
theorem k3_not : Sp.notL [kS] = kN := by decide +kernel
theorem k3_notn : Sp.notL [] = [(Sp.start, none)] := by decide +kernel
theorem k3_and : Sp.allL [[kS], []] = [] := by decide +kernel
theorem k3_or : Sp.nrm [[kS], [kS], [kS]].flatten = [kS] := by decide +kernel
theorem k3_ok : Sp.okL [kS] := by
  intro s hs
  obtain rfl := List.mem_singleton.1 hs
  exact ⟨⟨_, rfl⟩, Sp.ok_v (by decide +kernel) false, Sp.ok_v (by decide +kernel) false⟩
theorem k3_okn : Sp.okL kN := by rw [← k3_not]; exact Sp.ok_not k3_ok
theorem k3_oknil : Sp.okL [] := fun _ h => nomatch h
theorem k3_ia : IA ⟨#[94, 118, 49, 46, 50, 46, 51]⟩ := ia_ascii _ (by decide) (by decide)

end Go.Proofs.YtninheehoabbbaaGreatDoor
