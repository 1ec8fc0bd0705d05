/-
  Contracts of the reference's Right, Within.
-/
import Derived.Test.YtcoakjgeadkfoaaDoorH1
import Derived.Test.YtcoakjgeadkfoaaDoorV2
import Derived.Test.YtcoakjgeadkfoaaDoorM33
namespace Go.Proofs.YtcoakjgeadkfoaaDoor
set_option linter.unusedSimpArgs false
set_option linter.unusedVariables false
open Go.RowKit Go.Vr Go.Sort Go.Tx Go.Pa
attribute [local go_sem] setCellDrewN allocDrewN

theorem sw_count : ∀ (l : Bs), (sw l).length ≤ l.length + 1 := by
  intro l
  induction l with
  | nil => simp [sw]
  | cons c l ih =>
    by_cases h : c = 47
    · subst h
      rw [sw_slash]; simp; omega
    · cases e : sw l with
      | nil => exact absurd e (sw_ne l)
      | cons v vs =>
        rw [sw_cons h e]
        rw [e] at ih
        simp at ih ⊢; omega
theorem sgs_when (n : Nat) (h : n < 256) : sgs (UInt8.ofNat n) = true → ((97 ≤ (n : Int) ∧ (n : Int) ≤ 122) ∨ (48 ≤ (n : Int) ∧ (n : Int) ≤ 57) ∨ (n : Int) = 46 ∨ (n : Int) = 45 ∨ (n : Int) = 95 ∨ (n : Int) = 47) := by
  have key : ∀ m : Fin 256, sgs (UInt8.ofNat m.val) = true → ((97 ≤ m.val ∧ m.val ≤ 122) ∨ (48 ≤ m.val ∧ m.val ≤ 57) ∨ m.val = 46 ∨ m.val = 45 ∨ m.val = 95 ∨ m.val = 47) := by decide +kernel
  intro hs
  have := key ⟨n, h⟩ hs
  simp only at this
  omega
theorem sgs_not (n : Nat) (h : n < 256) : sgs (UInt8.ofNat n) = false → (((n : Int) < 48) ∨ (57 < (n : Int) ∧ (n : Int) < 97) ∨ 122 < (n : Int)) ∧ (n : Int) ≠ 46 ∧ (n : Int) ≠ 45 ∧ (n : Int) ≠ 95 ∧ (n : Int) ≠ 47 := by
  have key : ∀ m : Fin 256, sgs (UInt8.ofNat m.val) = false → ((m.val < 48) ∨ (57 < m.val ∧ m.val < 97) ∨ 122 < m.val) ∧ m.val ≠ 46 ∧ m.val ≠ 45 ∧ m.val ≠ 95 ∧ m.val ≠ 47 := by decide +kernel
  intro hs
  have := key ⟨n, h⟩ hs
  simp only at this
  omega
theorem of_nat (c : UInt8) : UInt8.ofNat c.toNat = c := by simp
/-- As the reference asks, word by word. -/
theorem bad_empty (x : Bs) (h : x = []) : (!badW x) = false := by subst h; rfl
theorem bad_two (x : Bs) (h : x.isEmpty = false) (h1 : (x == [46]) = false) (h2 : (x == [46, 46]) = false) : (!badW x) = true := by
  unfold badW
  have : (x == []) = false := by cases x with | nil => exact absurd h (by decide) | cons a b => rfl
  rw [this, h1, h2]; rfl

theorem inside_cut {s r : Bs} (h : r.length < s.length) : inside s r = (s.take (r.length + 1) == r ++ [47]) := by
  rw [Bool.eq_iff_iff, inside_iff, beq_iff_eq]
  constructor
  · rintro (rfl | ⟨t, rfl⟩)
    · omega
    · have e : r ++ 47 :: t = (r ++ [47]) ++ t := by simp
      rw [e, List.take_left' (by simp)]
  · intro e
    refine .inr ⟨s.drop (r.length + 1), ?_⟩
    have := List.take_append_drop (r.length + 1) s
    rw [e] at this
    rw [← this]; simp
theorem inside_short {s r : Bs} (h : s ≠ r) (hl : ¬ r.length < s.length) : inside s r = false := by
  cases e : inside s r with
  | false => rfl
  | true =>
    rcases (inside_iff s r).1 e with h2 | ⟨t, h2⟩
    · exact absurd h2 h
    · rw [h2] at hl; simp at hl

end Go.Proofs.YtcoakjgeadkfoaaDoor
