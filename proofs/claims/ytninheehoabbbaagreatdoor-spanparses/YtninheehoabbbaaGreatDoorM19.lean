/-
  Plain mathematics of a text of spans: words, blanks, what is read.
-/
import Derived.Test.YtninheehoabbbaaGreatDoorM18
namespace Go.Sp
set_option linter.unusedVariables false
open Go.Vr Go.Tx

def isW (c : UInt8) : Bool := !(c == 32 || c == 124)
/-- The word that is next; behind the blanks. -/
def wordM (s : Bs) (p : Nat) : Bs := (s.drop p).takeWhile isW
def blM (s : Bs) (p : Nat) : Nat := p + ((s.drop p).takeWhile (· == 32)).length
theorem word_len (s : Bs) (p : Nat) : (wordM s p).length ≤ s.length - p := by
  have h : (s.drop p).length = s.length - p := List.length_drop
  have := (List.takeWhile_sublist isW (l := s.drop p)).length_le
  unfold wordM; omega
theorem bl_le (s : Bs) (p : Nat) (h : p ≤ s.length) : p ≤ blM s p ∧ blM s p ≤ s.length := by
  have h2 : (s.drop p).length = s.length - p := List.length_drop
  have := (List.takeWhile_sublist (· == 32) (l := s.drop p)).length_le
  unfold blM; omega
theorem meant_nil : meantM [] = none := by decide +kernel

/-- One of those that hold together: its spans, or none; where the reading is then. -/
def item2 (s : Bs) (p : Nat) (v : V) : Option (List S) × Nat := match parse (wordM s (blM s (p + 1))) with
  | none => (none, blM s (p + 1))
  | some u => (some (only cmpC (some (v, false)) (some (u, true))), blM s (p + 1) + (wordM s (blM s (p + 1))).length)
def item1 (s : Bs) (p : Nat) (l : List S) : Option V → Option (List S) × Nat
  | none => (some l, p)
  | some v => if wordM s p = [45] then item2 s p v else (some l, p)
def itemM (s : Bs) (p : Nat) : Option (List S) × Nat := match meantM (wordM s p) with
  | none => (none, p)
  | some l => item1 s (blM s (p + (wordM s p).length)) l (parse (wordM s p))

theorem item_le (s : Bs) (p : Nat) (h : p ≤ s.length) : p ≤ (itemM s p).2 ∧ (itemM s p).2 ≤ s.length ∧ ((itemM s p).1 ≠ none → p < (itemM s p).2) := by
  unfold itemM
  have hw := word_len s p
  cases hm : meantM (wordM s p) with
  | none => exact ⟨Nat.le_refl _, h, fun k => absurd rfl k⟩
  | some l =>
    have hne : wordM s p ≠ [] := by
      intro e; rw [e, meant_nil] at hm; exact nomatch hm
    have hl := List.length_pos_iff.2 hne
    have h1 := bl_le s (p + (wordM s p).length) (by omega)
    simp only
    unfold item1
    cases parse (wordM s p) with
    | none => exact ⟨by simp only; omega, by simp only; omega, fun _ => by simp only; omega⟩
    | some v =>
      simp only
      split
      · rename_i he
        have hw2 := word_len s (blM s (p + (wordM s p).length))
        rw [he] at hw2
        simp only [List.length_cons, List.length_nil] at hw2
        have h2 := bl_le s (blM s (p + (wordM s p).length) + 1) (by omega)
        have hw3 := word_len s (blM s (blM s (p + (wordM s p).length) + 1))
        unfold item2
        split
        · exact ⟨by simp only; omega, by simp only; omega, fun k => absurd rfl k⟩
        · exact ⟨by simp only; omega, by simp only; omega, fun _ => by simp only; omega⟩
      · exact ⟨by simp only; omega, by simp only; omega, fun _ => by simp only; omega⟩

/-- A part: up to the next bar, or the end. -/
def partG (s : Bs) : Nat → Nat → List (List S) → Option (List S) × Nat
  | 0, p, _ => (none, p)
  | n + 1, p, acc => match itemM s p with
    | (none, q) => (none, q)
    | (some l, q) => if blM s q = s.length ∨ s[blM s q]? = some 124 then (some (allL (acc ++ [l])), blM s q) else partG s n (blM s q) (acc ++ [l])
def partM (s : Bs) (p : Nat) : Option (List S) × Nat := partG s (s.length + 1) (blM s p) []
/-- The parts. -/
def partsG (s : Bs) : Nat → Nat → List (List S) → Option (List S) × Nat
  | 0, p, _ => (none, p)
  | n + 1, p, acc => match partM s p with
    | (none, q) => (none, q)
    | (some l, q) => if q = s.length then (some (nrm (acc ++ [l]).flatten), q) else
      if s[q + 1]? = some 124 then partsG s n (q + 2) (acc ++ [l]) else (none, q + 1)
def parseS (s : Bs) : Option (List S) × Nat := partsG s (s.length + 1) 0 []
end Go.Sp
