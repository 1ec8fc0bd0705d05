/-
  Plain mathematics: what was quoted is unquoted as it was.
-/
import Derived.Test.YthcclkihfnjpfaaM3
namespace Go.Tx
set_option linter.unusedVariables false

theorem unq_esc (c : UInt8) (X : List UInt8) (hc : plB (c.toNat : Int) = true) : unq (esc1 c ++ X) = (unq X).map fun y => (c :: y.1, y.2 + (esc1 c).length) := by
  by_cases h1 : c = 34
  · subst h1
    show unq (92 :: 34 :: X) = _
    rw [unq_cons, if_neg (by decide), if_pos rfl]; rfl
  by_cases h2 : c = 92
  · subst h2
    show unq (92 :: 92 :: X) = _
    rw [unq_cons, if_neg (by decide), if_pos rfl]; rfl
  by_cases h3 : c = 10
  · subst h3
    show unq (92 :: 110 :: X) = _
    rw [unq_cons, if_neg (by decide), if_pos rfl]; rfl
  by_cases h4 : c = 9
  · subst h4
    show unq (92 :: 116 :: X) = _
    rw [unq_cons, if_neg (by decide), if_pos rfl]; rfl
  have he : esc1 c = [c] := by simp [esc1, esc, h1, h2, h3, h4]
  have hp : prB (c.toNat : Int) = true := by
    have e9 : ¬ (c.toNat : Int) = 9 := fun e => h4 (UInt8.toNat_inj.1 (by show _ = 9; omega))
    have e10 : ¬ (c.toNat : Int) = 10 := fun e => h3 (UInt8.toNat_inj.1 (by show _ = 10; omega))
    simpa [plB, e9, e10] using hc
  rw [he]
  show unq (c :: X) = _
  rw [unq_cons, if_neg h1, if_neg h2, if_pos hp]; rfl

theorem unq_escs : ∀ (l X : List UInt8), plain l = true → unq (escs l ++ 34 :: X) = some (l, (escs l).length + 1)
  | [], X, _ => by show unq (34 :: X) = _; rw [unq_cons, if_pos rfl]; rfl
  | c :: l, X, h => by
    have hc : plB (c.toNat : Int) = true ∧ plain l = true := by simpa [plain] using h
    have e : escs (c :: l) = esc1 c ++ escs l := by simp [escs]
    rw [e, List.append_assoc, unq_esc c _ hc.1, unq_escs l X hc.2]
    simp; omega

theorem unquote_quote (l X : List UInt8) (h : plain l = true) : unquote (quote l ++ X) = some (l, (quote l).length) := by
  have e : quote l ++ X = 34 :: (escs l ++ 34 :: X) := by simp [quote]
  rw [e]
  show (if (34 : UInt8) = 34 then (unq (escs l ++ 34 :: X)).map (fun y => (y.1, y.2 + 1)) else none) = _
  rw [if_pos rfl, unq_escs l X h]
  simp [quote]

end Go.Tx
