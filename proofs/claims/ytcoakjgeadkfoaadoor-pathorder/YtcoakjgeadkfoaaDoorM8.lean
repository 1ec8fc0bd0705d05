/-
  Plain mathematics of orders: a comparison that says -1, 0, 1; pairs, lists, keys of such.
-/
import Derived.Lib.Bytealg
import Derived.Lib.Small
namespace Go.Vr
set_option linter.unusedVariables false
open Go.Lib

/-- A comparison that is an order: each way, through three, the same just of the same. -/
structure Ord {α : Type} (cmp : α → α → Int) : Prop where
  anti : ∀ a b, cmp b a = - cmp a b
  le : ∀ a b c, cmp a b ≤ 0 → cmp b c ≤ 0 → cmp a c ≤ 0
  eq : ∀ a b, cmp a b = 0 ↔ a = b
  bd : ∀ a b, -1 ≤ cmp a b ∧ cmp a b ≤ 1

/-- The first that is not 0. -/
def seq (x y : Int) : Int := if x = 0 then y else x
theorem seq_zero (y : Int) : seq 0 y = y := rfl
theorem seq_ne {x y : Int} (h : x ≠ 0) : seq x y = x := if_neg h
theorem seq_right (x : Int) : seq x 0 = x := by unfold seq; split <;> omega
theorem seq_assoc (x y z : Int) : seq (seq x y) z = seq x (seq y z) := by
  unfold seq; by_cases h : x = 0
  · simp [h]
  · simp [h]

theorem Ord.refl {α : Type} {cmp : α → α → Int} (h : Ord cmp) (a : α) : cmp a a = 0 := (h.eq a a).2 rfl
theorem Ord.lt_le {α : Type} {cmp : α → α → Int} (h : Ord cmp) (a b c : α) (h1 : cmp a b < 0) (h2 : cmp b c ≤ 0) : cmp a c < 0 := by
  have h3 := h.le a b c (by omega) h2
  by_cases e : cmp a c = 0
  · have e2 := (h.eq a c).1 e
    subst e2
    have := h.anti a b
    omega
  · omega
theorem Ord.le_lt {α : Type} {cmp : α → α → Int} (h : Ord cmp) (a b c : α) (h1 : cmp a b ≤ 0) (h2 : cmp b c < 0) : cmp a c < 0 := by
  have h3 := h.le a b c h1 (by omega)
  by_cases e : cmp a c = 0
  · have e2 := (h.eq a c).1 e
    subst e2
    have := h.anti a b
    omega
  · omega

theorem ord_int : Ord compareInt where
  anti a b := by unfold compareInt; repeat' split
                 all_goals omega
  le a b c := by unfold compareInt; repeat' split
                 all_goals omega
  eq a b := by unfold compareInt; repeat' split
               all_goals omega
  bd a b := by unfold compareInt; repeat' split
               all_goals omega

/-- A key that tells all apart. -/
theorem Ord.pull {α β : Type} {cmp : β → β → Int} (h : Ord cmp) (f : α → β) (hf : ∀ a b, f a = f b → a = b) : Ord (fun a b => cmp (f a) (f b)) where
  anti a b := h.anti _ _
  le a b c := h.le _ _ _
  eq a b := ⟨fun e => hf a b ((h.eq _ _).1 e), fun e => by rw [e]; exact h.refl _⟩
  bd a b := h.bd _ _

/-- By the first, then by the second. -/
theorem Ord.pair {α β : Type} {c1 : α → α → Int} {c2 : β → β → Int} (h1 : Ord c1) (h2 : Ord c2) : Ord (fun (x y : α × β) => seq (c1 x.1 y.1) (c2 x.2 y.2)) where
  anti x y := by
    have e1 := h1.anti x.1 y.1
    have e2 := h2.anti x.2 y.2
    unfold seq
    split <;> split <;> omega
  le x y z hxy hyz := by
    unfold seq at *
    by_cases e1 : c1 x.1 y.1 = 0
    · rw [if_pos e1] at hxy
      have := (h1.eq _ _).1 e1
      by_cases e2 : c1 y.1 z.1 = 0
      · rw [if_pos e2] at hyz
        rw [← this] at e2
        rw [if_pos e2]
        exact h2.le _ _ _ hxy hyz
      · rw [if_neg e2] at hyz
        rw [← this] at e2 hyz
        rw [if_neg e2]; exact hyz
    · rw [if_neg e1] at hxy
      by_cases e2 : c1 y.1 z.1 = 0
      · have := (h1.eq _ _).1 e2
        rw [← this, if_neg e1]; exact hxy
      · rw [if_neg e2] at hyz
        have := h1.lt_le _ _ _ (show c1 x.1 y.1 < 0 by omega) hyz
        rw [if_neg (by omega)]; omega
  eq x y := by
    unfold seq
    constructor
    · intro h
      split at h
      · rename_i e; exact Prod.ext ((h1.eq _ _).1 e) ((h2.eq _ _).1 h)
      · rename_i e; exact absurd h e
    · rintro rfl
      rw [if_pos (h1.refl _)]; exact h2.refl _
  bd x y := by
    have b1 := h1.bd x.1 y.1
    have b2 := h2.bd x.2 y.2
    unfold seq; split <;> omega

/-- Lists, part by part; which ends first is less. -/
def lex {α : Type} (cmp : α → α → Int) : List α → List α → Int
  | [], [] => 0
  | [], _ :: _ => -1
  | _ :: _, [] => 1
  | a :: as, b :: bs => seq (cmp a b) (lex cmp as bs)

theorem lex_bd {α : Type} {cmp : α → α → Int} (h : Ord cmp) : ∀ a b, -1 ≤ lex cmp a b ∧ lex cmp a b ≤ 1
  | [], [] => by simp [lex]
  | [], _ :: _ => by simp [lex]
  | _ :: _, [] => by simp [lex]
  | a :: as, b :: bs => by
    have h1 := h.bd a b
    have h2 := lex_bd h as bs
    unfold lex seq; split <;> omega
theorem lex_anti {α : Type} {cmp : α → α → Int} (h : Ord cmp) : ∀ a b, lex cmp b a = - lex cmp a b
  | [], [] => rfl
  | [], _ :: _ => rfl
  | _ :: _, [] => rfl
  | a :: as, b :: bs => by
    have h1 := h.anti a b
    have h2 := lex_anti h as bs
    unfold lex seq; split <;> split <;> omega
theorem lex_eq {α : Type} {cmp : α → α → Int} (h : Ord cmp) : ∀ a b, lex cmp a b = 0 ↔ a = b
  | [], [] => by simp [lex]
  | [], _ :: _ => by simp [lex]
  | _ :: _, [] => by simp [lex]
  | a :: as, b :: bs => by
    have h1 := h.eq a b
    have h2 := lex_eq h as bs
    unfold lex seq
    split
    · rename_i e; rw [h2]; simp [h1.1 e]
    · rename_i e
      constructor
      · intro k; exact absurd k e
      · intro k; injection k with k1 k2; exact absurd (h1.2 k1) e
theorem lex_le {α : Type} {cmp : α → α → Int} (h : Ord cmp) : ∀ a b c, lex cmp a b ≤ 0 → lex cmp b c ≤ 0 → lex cmp a c ≤ 0
  | [], _, [], _, _ => by simp [lex]
  | [], _, _ :: _, _, _ => by simp [lex]
  | _ :: _, [], _, k, _ => by simp [lex] at k
  | _ :: _, _ :: _, [], _, k => by simp [lex] at k
  | a :: as, b :: bs, c :: cs, k1, k2 => by
    have ih := lex_le h as bs cs
    unfold lex seq at k1 k2 ⊢
    by_cases e1 : cmp a b = 0
    · rw [if_pos e1] at k1
      have := (h.eq _ _).1 e1
      subst this
      by_cases e2 : cmp a c = 0
      · rw [if_pos e2] at k2 ⊢; exact ih k1 k2
      · rw [if_neg e2] at k2 ⊢; exact k2
    · rw [if_neg e1] at k1
      by_cases e2 : cmp b c = 0
      · have := (h.eq _ _).1 e2
        subst this
        rw [if_neg e1]; exact k1
      · rw [if_neg e2] at k2
        have := h.lt_le _ _ _ (show cmp a b < 0 by omega) k2
        rw [if_neg (by omega)]; omega
theorem Ord.lex {α : Type} {cmp : α → α → Int} (h : Ord cmp) : Ord (lex cmp) := ⟨lex_anti h, lex_le h, lex_eq h, lex_bd h⟩

theorem lex_same {α : Type} {cmp : α → α → Int} (h : Ord cmp) : ∀ (l a b : List α), Vr.lex cmp (l ++ a) (l ++ b) = Vr.lex cmp a b
  | [], _, _ => rfl
  | x :: l, a, b => by
    show seq (cmp x x) (Vr.lex cmp (l ++ a) (l ++ b)) = _
    rw [h.refl, seq_zero, lex_same h l a b]
theorem lex_more {α : Type} {cmp : α → α → Int} (h : Ord cmp) (l : List α) (x : α) (a : List α) : Vr.lex cmp l (l ++ x :: a) = -1 := by
  have := lex_same h l [] (x :: a)
  rw [List.append_nil] at this
  rw [this]; rfl

def cmpB (a b : UInt8) : Int := compareInt (a.toNat : Int) (b.toNat : Int)
theorem ord_byte : Ord cmpB := ord_int.pull (fun a : UInt8 => (a.toNat : Int)) (fun a b e => UInt8.toNat_inj.1 (by omega))
theorem bytes_lex : ∀ a b, compareBytes a b = lex cmpB a b
  | [], [] => rfl
  | [], _ :: _ => rfl
  | _ :: _, [] => rfl
  | a :: as, b :: bs => by
    have ih := bytes_lex as bs
    unfold compareBytes Vr.lex
    have e1 : a < b ↔ (a.toNat : Int) < b.toNat := by rw [UInt8.lt_iff_toNat_lt]; omega
    have e2 : b < a ↔ (b.toNat : Int) < a.toNat := by rw [UInt8.lt_iff_toNat_lt]; omega
    by_cases h1 : a < b
    · rw [if_pos h1]
      have : cmpB a b = -1 := by unfold cmpB compareInt; rw [if_pos (e1.1 h1)]
      rw [this]; rfl
    · rw [if_neg h1]
      have n1 : ¬ (a.toNat : Int) < b.toNat := fun k => h1 (e1.2 k)
      by_cases h2 : b < a
      · rw [if_pos h2]
        have : cmpB a b = 1 := by unfold cmpB compareInt; rw [if_neg n1, if_pos (e2.1 h2)]
        rw [this]; rfl
      · rw [if_neg h2]
        have n2 : ¬ (b.toNat : Int) < a.toNat := fun k => h2 (e2.2 k)
        have : cmpB a b = 0 := by unfold cmpB compareInt; rw [if_neg n1, if_neg n2]
        rw [this, seq_zero, ih]
theorem ord_bytes : Ord compareBytes := by
  have : compareBytes = lex cmpB := funext fun a => funext fun b => bytes_lex a b
  rw [this]; exact ord_byte.lex

end Go.Vr
