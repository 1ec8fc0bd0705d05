/-
  Facts for VerPseudos: the ids that it cuts; what a pseudo version says, in one theorem.
-/
import Derived.Test.YtiicikieemfcmaaGreatDoorU22
import Derived.Test.YtiicikieemfcmaaGreatDoorM15
namespace Go.Proofs.YtiicikieemfcmaaGreatDoor
set_option linter.unusedSimpArgs false
set_option linter.unusedVariables false
open Go.RowKit Go.Vr Go.Sort Go.Tx Go.Lib

abbrev C20 : ByteArray := ⟨#[48, 49, 50, 51, 52, 53, 54, 55, 56, 57, 97, 98, 99, 100, 101, 102, 48, 49, 50, 51]⟩
theorem id_fact : ∀ i, i < 8 → idOk (C20.extract 0 (12 + i)).data.toList = true ∧ (C20.extract 0 (12 + i)).size = 12 + i ∧ str ((C20.extract 0 (12 + i)).data.toList.take 12) = (C20.extract 0 (12 + i)).extract 0 12 := by
  have h : ((List.range 8).all fun i => idOk (C20.extract 0 (12 + i)).data.toList && (decide ((C20.extract 0 (12 + i)).size = 12 + i) && decide (str ((C20.extract 0 (12 + i)).data.toList.take 12) = (C20.extract 0 (12 + i)).extract 0 12))) = true := by decide +kernel
  intro i hi
  have := List.all_eq_true.1 h i (List.mem_range.2 hi)
  rw [Bool.and_eq_true, Bool.and_eq_true] at this
  exact ⟨this.1, of_decide_eq_true this.2.1, of_decide_eq_true this.2.2⟩
theorem timeN_ok (n : Nat) (h : n < 100000000000000) : timeOk n = true := by unfold timeOk; simp; omega
/-- What Behind says of a pseudo version, and where it stands. -/
theorem pver_says (has : Bool) (v : V) (n : Nat) (id : ByteArray) (h : n < 100000000000000) (hi : idOk id.data.toList = true) (h0 : has = false → v = V.zero) :
    behind (pver has v n id.data.toList).p.data.toList = some ((n : Int), id.data.toList.take 12) ∧ (has = true → cmpV (pver has v n id.data.toList) v = 1) ∧
    cmpV (pver has v n id.data.toList) ⟨v.a, v.b, if has = true ∧ v.p.data.toList ≠ [] then v.c else v.c + 1, ByteArray.empty⟩ = -1 :=
  ⟨behind_pver has v n id.data.toList (timeN_ok n h) hi, fun e => by subst e; exact pver_more v n id.data.toList (timeN_ok n h) hi, pver_less has v n id.data.toList (timeN_ok n h) hi h0⟩
/-- Any answer of Pseudo, as a value. -/
theorem pret_is (o : Option V) : ∃ (u : V) (b : Bool), pret o = .tuple #[ver u.a u.b u.c u.p, .bool b] := ⟨_, _, rfl⟩
theorem next_ok {v : V} (h : v.ok = true) (z : Int) (hz : 0 ≤ z ∧ z ≤ 999999) : (V.mk v.a v.b z ⟨#[]⟩).ok = true := by
  obtain ⟨h1, h2, h3, -⟩ := ok_parts h
  exact made_ok h1 h2 hz (by decide +kernel)

end Go.Proofs.YtiicikieemfcmaaGreatDoor
