/-
  Plain mathematics of quoted texts.
-/
import Derived.Test.YthcclkihfnjpfaaM2
namespace Go.Tx
set_option linter.unusedVariables false

/-- What a sign behind a backslash stands for. -/
def unesc (c : UInt8) : Option UInt8 :=
  if c = 34 then some 34 else if c = 92 then some 92 else if c = 47 then some 47 else if c = 110 then some 10 else if c = 116 then some 9 else none

/-- One sign: what it says, how many bytes it has. -/
def sgn : List UInt8 → Option (UInt8 × Nat)
  | [] => none
  | c :: l => if c = 92 then (match l with | [] => none | d :: _ => (unesc d).map fun x => (x, 2)) else if prB (c.toNat : Int) = true then some (c, 1) else none

theorem sgn_cons (c : UInt8) (l : List UInt8) : sgn (c :: l) = if c = 92 then (match l with | [] => none | d :: _ => (unesc d).map fun x => (x, 2)) else if prB (c.toNat : Int) = true then some (c, 1) else none := by
  rw [sgn.eq_def]

/-- Behind the opening quote: what is said, how many bytes it has with the closing quote. -/
def unq : List UInt8 → Option (List UInt8 × Nat)
  | [] => none
  | c :: l => if c = 34 then some ([], 1) else if c = 92 then (match l with | [] => none | d :: l' => match unesc d with | none => none | some x => (unq l').map fun y => (x :: y.1, y.2 + 2)) else if prB (c.toNat : Int) = true then (unq l).map fun y => (c :: y.1, y.2 + 1) else none

theorem unq_cons (c : UInt8) (l : List UInt8) : unq (c :: l) = if c = 34 then some ([], 1) else if c = 92 then (match l with | [] => none | d :: l' => match unesc d with | none => none | some x => (unq l').map fun y => (x :: y.1, y.2 + 2)) else if prB (c.toNat : Int) = true then (unq l).map fun y => (c :: y.1, y.2 + 1) else none := by
  rw [unq.eq_def]

/-- A text that begins with a quoted one. -/
def unquote : List UInt8 → Option (List UInt8 × Nat)
  | [] => none
  | c :: l => if c = 34 then (unq l).map fun y => (y.1, y.2 + 1) else none

theorem unq_step (l : List UInt8) (h : ¬ l.head? = some 34) : unq l = match sgn l with | none => none | some (c, n) => (unq (l.drop n)).map fun y => (c :: y.1, y.2 + n) := by
  cases l with
  | nil => rfl
  | cons c l =>
    have hc : ¬ c = 34 := by simpa using h
    rw [unq_cons, sgn_cons, if_neg hc]
    by_cases h2 : c = 92
    · rw [if_pos h2, if_pos h2]
      cases l with
      | nil => rfl
      | cons d l' =>
        simp only
        cases unesc d <;> simp
    · rw [if_neg h2, if_neg h2]
      by_cases h3 : prB (c.toNat : Int) = true
      · rw [if_pos h3, if_pos h3]; simp
      · rw [if_neg h3, if_neg h3]

theorem unq_len : ∀ (n : Nat) (l : List UInt8) (o : List UInt8) (m : Nat), l.length ≤ n → unq l = some (o, m) → o.length ≤ l.length ∧ m ≤ l.length
  | 0, l, o, m, h, e => by
    have : l = [] := List.eq_nil_of_length_eq_zero (by omega)
    subst this; simp [unq] at e
  | n + 1, [], o, m, h, e => by simp [unq] at e
  | n + 1, c :: l, o, m, h, e => by
    rw [unq_cons] at e
    simp only [List.length_cons] at h ⊢
    by_cases h1 : c = 34
    · rw [if_pos h1] at e
      simp only [Option.some.injEq, Prod.mk.injEq] at e
      obtain ⟨rfl, rfl⟩ := e; simp
    · rw [if_neg h1] at e
      by_cases h2 : c = 92
      · rw [if_pos h2] at e
        cases l with
        | nil => simp at e
        | cons d l' =>
          simp only at e
          cases hu : unesc d with
          | none => rw [hu] at e; simp at e
          | some x =>
            rw [hu] at e
            simp only [Option.map_eq_some_iff, Prod.mk.injEq] at e
            obtain ⟨⟨o', m'⟩, he, rfl, rfl⟩ := e
            simp only [List.length_cons] at h ⊢
            have := unq_len n l' o' m' (by omega) he
            omega
      · rw [if_neg h2] at e
        by_cases h3 : prB (c.toNat : Int) = true
        · rw [if_pos h3] at e
          simp only [Option.map_eq_some_iff, Prod.mk.injEq] at e
          obtain ⟨⟨o', m'⟩, he, rfl, rfl⟩ := e
          have := unq_len n l o' m' (by omega) he
          simp only [List.length_cons]
          omega
        · rw [if_neg h3] at e; cases e

/-- A byte's own sign behind a backslash. -/
def esc (c : UInt8) : Option UInt8 := if c = 34 then some 34 else if c = 92 then some 92 else if c = 10 then some 110 else if c = 9 then some 116 else none
def esc1 (c : UInt8) : List UInt8 := match esc c with | some d => [92, d] | none => [c]
/-- The inside of a quoted text. -/
def escs (l : List UInt8) : List UInt8 := l.flatMap esc1
def quote (l : List UInt8) : List UInt8 := 34 :: (escs l ++ [34])

theorem escs_snoc (l : List UInt8) (c : UInt8) : escs (l ++ [c]) = escs l ++ esc1 c := by simp [escs]
theorem esc1_len (c : UInt8) : 1 ≤ (esc1 c).length ∧ (esc1 c).length ≤ 2 := by unfold esc1; split <;> simp
theorem escs_len (l : List UInt8) : (escs l).length ≤ 2 * l.length := by
  induction l with
  | nil => simp [escs]
  | cons c l ih => have := esc1_len c; simp [escs] at ih ⊢; omega

end Go.Tx
