/-
  Contract of the reference's Pseudo.
-/
import Derived.Test.YtiicikieemfcmaaGreatDoorU18
namespace Go.Proofs.YtiicikieemfcmaaGreatDoor
set_option linter.unusedSimpArgs false
set_option linter.unusedVariables false
open Go.RowKit Go.Vr Go.Sort Go.Tx Go.Lib
attribute [local go_sem] setCellDrewN allocDrewN

def strSz : Value → Nat
  | .string s => 14 - s.size
  | _ => 0
theorem pseudo_no (has : Bool) (v : V) (t : Int) (id : Bs) (h : ¬ (timeOk t = true ∧ idOk id = true)) : pseudo has v t id = none := if_neg h
theorem pseudo_if (has : Bool) (v : V) (t : Int) (id : Bs) (h : timeOk t = true) (hi : idOk id = true) : pseudo has v t id = if (pver has v t id).ok = true then some (pver has v t id) else none := if_pos ⟨h, hi⟩

set_option maxHeartbeats 4000000 in
set_option maxRecDepth 100000 in
theorem rpseudo_no (has : Bool) (v : V) (t : Int) (id : ByteArray) (w : World) (hi : id.size ≤ 1000) (hbad : ¬ (timeOk t = true ∧ idOk id.data.toList = true)) :
    Calls Tryz.prog 30 #[.bool has, val v, .int .i64 t, .string id] w fun e w' => e = .returned (pret (pseudo has v t id.data.toList)) ∧ Below w.heap.size w w' := by
  have HN := hide (pseudo_no has v t id.data.toList hbad)
  obtain ⟨a, b, c, p⟩ := v
  have hB0 := hide (((Below.refl w.heap.size w).alloc (Nat.le_refl _) (.cells #[.int .i64 a, .int .i64 b, .int .i64 c, .string p] 24)).alloc (by simp) (.cells #[.int .i64 0, .int .i64 0, .int .i64 0, .string ⟨#[]⟩] 24))
  by_cases h0 : t < 0
  · have d0 : decide (t < 0) = true := by simpa using h0
    go_enter Tryz.func30, Tryz.ntmps30
    go_wp2_with fail
    exact bodyPost_ret (v := .tuple #[ver 0 0 0 ⟨#[]⟩, .bool false]) (by simp [results, Tryz.results30, go_sem]) rfl ⟨pret_none HN.out, hB0.out⟩
  have d0 : decide (t < 0) = false := by simpa using h0
  by_cases h1 : 99999999999999 < t
  · have d1 : decide (99999999999999 < t) = true := by simpa using h1
    go_enter Tryz.func30, Tryz.ntmps30
    go_wp2_with fail
    exact bodyPost_ret (v := .tuple #[ver 0 0 0 ⟨#[]⟩, .bool false]) (by simp [results, Tryz.results30, go_sem]) rfl ⟨pret_none HN.out, hB0.out⟩
  have d1 : decide (99999999999999 < t) = false := by simpa using h1
  have hid : idOk id.data.toList = false := by
    cases h : idOk id.data.toList with
    | false => rfl
    | true => exact absurd ⟨by unfold timeOk; simp; omega, h⟩ hbad
  have CI := hide (fun W => rid_any id W (by unfold maxLen; omega))
  rw [hid] at CI
  clear hbad hid
  go_enter Tryz.func30, Tryz.ntmps30
  go_wp2_with fail
  refine (CI.out _).mono ?_
  rintro e w2 ⟨rfl, rfl⟩
  go_wp2_with fail
  exact bodyPost_ret (v := .tuple #[ver 0 0 0 ⟨#[]⟩, .bool false]) (by simp [results, Tryz.results30, go_sem]) rfl ⟨pret_none HN.out, hB0.out⟩

end Go.Proofs.YtiicikieemfcmaaGreatDoor
