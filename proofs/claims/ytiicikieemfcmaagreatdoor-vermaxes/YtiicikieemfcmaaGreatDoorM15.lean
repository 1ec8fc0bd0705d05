/-
  A word more; no Pre; a list of orders.
-/
import Derived.Test.YtiicikieemfcmaaGreatDoorM14
namespace Go.Vr
set_option linter.unusedVariables false
open Go.Lib Go.Tx

theorem cmp_none (a b c : Int) (x : ByteArray) (hx : x.data.toList ≠ []) : cmpV ⟨a, b, c, ⟨#[]⟩⟩ ⟨a, b, c, x⟩ = 1 ∧ cmpV ⟨a, b, c, x⟩ ⟨a, b, c, ⟨#[]⟩⟩ = -1 := by
  have h1 : none1 x.data.toList = 0 := if_neg hx
  have h2 : none1 (ByteArray.mk #[]).data.toList = 1 := rfl
  unfold cmpV cmpP
  simp only [ord_int.refl, seq_zero, h1, h2]
  exact ⟨rfl, rfl⟩
theorem lex_longer {α : Type} {cmp : α → α → Int} (h : ∀ x, cmp x x = 0) (r : List α) (hr : r ≠ []) : ∀ l : List α, lex cmp l (l ++ r) = -1
  | [] => by cases r with
    | nil => exact absurd rfl hr
    | cons x r => rfl
  | x :: l => by
    show seq (cmp x x) (lex cmp l (l ++ r)) = -1
    rw [h, seq_zero, lex_longer h r hr l]
theorem cmp_longer (a b c : Int) (p q x : ByteArray) (hp : p.data.toList ≠ []) (hq : q.data.toList = p.data.toList ++ 46 :: x.data.toList) : cmpV ⟨a, b, c, p⟩ ⟨a, b, c, q⟩ = -1 := by
  have h1 : none1 p.data.toList = 0 := if_neg hp
  have h2 : none1 q.data.toList = 0 := if_neg (by rw [hq]; simp)
  unfold cmpV cmpP
  simp only [ord_int.refl, seq_zero, h1, h2]
  rw [hq, words_app, lex_longer ord_word.refl _ (words_ne _)]

end Go.Vr
