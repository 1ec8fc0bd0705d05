/-
  What a law is told of its slices of integers.
-/
import Derived.Test.YtninheehoabbbaaGreatDoorN5
import Derived.OpenShut
namespace Go.Proofs.YtninheehoabbbaaGreatDoor
set_option linter.unusedSimpArgs false
set_option linter.unusedVariables false
open Go.RowKit Go.Tx Go.Joins Go.Vr

/-- A slice of integers that is there: its elements 'xs'. -/
structure Row (k : IntKind) (w : World) (a : Option Addr) (len cap : Nat) (xs : List Int) : Prop where
  n : xs.length = len
  nil : a = none → len = 0 ∧ cap = 0
  le : len ≤ cap
  mx : cap ≤ maxLen
  cell : ∀ x, a = some x → ∀ i, i < len → w.cell? (x.add i) = some (.int k (xs.getD i 0))
  wf : ∀ z ∈ xs, (Lit.int k z).wf = true

/-- A slice of integers that came in: nil, or a row of 'cap' cells. -/
def IsRow (k : IntKind) (w : World) (a : Option Addr) (len cap : Nat) (zs : List Int) : Prop :=
  (a = none ∧ len = 0 ∧ cap = 0 ∧ zs = []) ∨
  ∃ x, a = some x ∧ len ≤ cap ∧ cap ≤ maxLen ∧ zs.length = cap ∧ (∀ i, i < zs.length → w.cell? (x.add i) = some (.int k (zs.getD i 0))) ∧ ∀ n ∈ zs, (Lit.int k n).wf = true

theorem IsRow.row {k : IntKind} {w : World} {a : Option Addr} {len cap : Nat} {zs : List Int} (h : IsRow k w a len cap zs) : Row k w a len cap (zs.take len) := by
  rcases h with ⟨rfl, rfl, rfl, rfl⟩ | ⟨x, rfl, hl, hm, hz, hc, hw⟩
  · exact ⟨rfl, fun _ => ⟨rfl, rfl⟩, Nat.le_refl _, Nat.zero_le _, (fun x e => nomatch e), fun z hz => by simp at hz⟩
  · refine ⟨by simp; omega, (fun e => nomatch e), hl, hm, fun y e i hi => ?_, fun z hz2 => hw z (List.mem_of_mem_take hz2)⟩
    obtain rfl : x = y := by simpa using e
    rw [hc i (by omega)]
    simp [List.getD, hi]

theorem Row.later {k : IntKind} {w w' : World} {a : Option Addr} {len cap : Nat} {xs : List Int} (h : Row k w a len cap xs) (hb : Below w.heap.size w w') : Row k w' a len cap xs :=
  ⟨h.n, h.nil, h.le, h.mx, fun x e i hi => cellLater hb (h.cell x e i hi), h.wf⟩

theorem bd64 {n : Int} (h : (Lit.int .i64 n).wf = true) : -9223372036854775808 ≤ n ∧ n ≤ 9223372036854775807 := bounds_i64 h
end Go.Proofs.YtninheehoabbbaaGreatDoor
