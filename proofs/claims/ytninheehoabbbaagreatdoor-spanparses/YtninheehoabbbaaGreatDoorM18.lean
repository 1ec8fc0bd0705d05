/-
  Plain mathematics of words: what one says.
-/
import Derived.Test.YtninheehoabbbaaGreatDoorM17
namespace Go.Sp
set_option linter.unusedVariables false
open Go.Vr Go.Tx

/-- A bumped place. -/
def firstC (a b c : Int) : C := some (⟨a, b, c, ⟨#[48]⟩⟩, false)
def bumpA (v : V) : C := if v.a = 999999 then none else firstC (v.a + 1) 0 0
def bumpB (v : V) : C := if v.b = 999999 then bumpA v else firstC v.a (v.b + 1) 0
def bumpC (v : V) : C := if v.c = 999999 then bumpB v else firstC v.a v.b (v.c + 1)
def bumpL (v : V) : C := if 0 < v.a then bumpA v else if 0 < v.b then bumpB v else bumpC v
theorem ok_first {a b c : Int} (ha : 0 ≤ a ∧ a ≤ 999999) (hb : 0 ≤ b ∧ b ≤ 999999) (hc : 0 ≤ c ∧ c ≤ 999999) : okC (firstC a b c) := by
  rintro p h
  obtain rfl := Option.some.inj h
  have hp : preOk (ByteArray.mk #[48]).data.toList = true := by decide
  show verOk a b c _ = true
  unfold verOk partOk
  simp only [Bool.and_eq_true, decide_eq_true_eq]
  exact ⟨⟨⟨ha, hb⟩, hc⟩, hp⟩
theorem parts_ok {v : V} (h : v.ok = true) : (0 ≤ v.a ∧ v.a ≤ 999999) ∧ (0 ≤ v.b ∧ v.b ≤ 999999) ∧ (0 ≤ v.c ∧ v.c ≤ 999999) := by
  unfold V.ok verOk partOk at h
  simp only [Bool.and_eq_true, decide_eq_true_eq] at h
  exact ⟨h.1.1.1, h.1.1.2, h.1.2⟩
theorem ok_bumpA {v : V} (h : v.ok = true) : okC (bumpA v) := by
  obtain ⟨h1, _, _⟩ := parts_ok h
  unfold bumpA
  split
  · exact ok_end
  · exact ok_first ⟨by omega, by omega⟩ (by omega) (by omega)
theorem ok_bumpB {v : V} (h : v.ok = true) : okC (bumpB v) := by
  obtain ⟨h1, h2, _⟩ := parts_ok h
  unfold bumpB
  split
  · exact ok_bumpA h
  · exact ok_first h1 ⟨by omega, by omega⟩ (by omega)
theorem ok_bumpC {v : V} (h : v.ok = true) : okC (bumpC v) := by
  obtain ⟨h1, h2, h3⟩ := parts_ok h
  unfold bumpC
  split
  · exact ok_bumpB h
  · exact ok_first h1 h2 ⟨by omega, by omega⟩
theorem ok_bumpL {v : V} (h : v.ok = true) : okC (bumpL v) := by
  unfold bumpL
  split
  · exact ok_bumpA h
  · split
    · exact ok_bumpB h
    · exact ok_bumpC h

/-- What a sign ahead of a version says. -/
def signedM (g : Bs) (v : V) : Option (List S) :=
  if g = [] ∨ g = [61] then some (only cmpC (some (v, false)) (some (v, true)))
  else if g = [33, 61] then some (notL (only cmpC (some (v, false)) (some (v, true))))
  else if g = [62] then some (only cmpC (some (v, true)) none)
  else if g = [62, 61] then some (only cmpC (some (v, false)) none)
  else if g = [60] then some (only cmpC start (some (v, false)))
  else if g = [60, 61] then some (only cmpC start (some (v, true)))
  else if g = [94] then some (only cmpC (some (v, false)) (bumpL v))
  else if g = [126] then some (only cmpC (some (v, false)) (bumpB v))
  else none
theorem ok_v {v : V} (h : v.ok = true) (b : Bool) : okC (some (v, b)) := by rintro p e; obtain rfl := Option.some.inj e; exact h
theorem ok_signed {g : Bs} {v : V} {l : List S} (hv : v.ok = true) (h : signedM g v = some l) : okL l ∧ Normed l := by
  have h1 := ok_only (ok_v hv false) (ok_v hv true)
  have n1 : Normed (only cmpC (some (v, false)) (some (v, true))) := nm_only _ _
  unfold signedM at h
  repeat' split at h
  all_goals first
    | (cases h; exact ⟨h1, n1⟩)
    | (cases h; exact ⟨ok_not h1, not_nm n1⟩)
    | (cases h; exact ⟨ok_only (ok_v hv true) ok_end, nm_only _ _⟩)
    | (cases h; exact ⟨ok_only (ok_v hv false) ok_end, nm_only _ _⟩)
    | (cases h; exact ⟨ok_only ok_start (ok_v hv false), nm_only _ _⟩)
    | (cases h; exact ⟨ok_only ok_start (ok_v hv true), nm_only _ _⟩)
    | (cases h; exact ⟨ok_only (ok_v hv false) (ok_bumpL hv), nm_only _ _⟩)
    | (cases h; exact ⟨ok_only (ok_v hv false) (ok_bumpB hv), nm_only _ _⟩)
    | (cases h; done)

/-- One that leaves C, or B and C, open. -/
def wild1 : Option V → Option (List S)
  | some u => if u.p.data.toList = [] then some (only cmpC (firstC u.a 0 0) (bumpA ⟨u.a, 0, 0, ⟨#[48]⟩⟩)) else none
  | none => none
def wild2 (o1 o2 : Option V) : Option (List S) := match o1 with
  | some v => if v.p.data.toList = [] then some (only cmpC (firstC v.a v.b 0) (bumpB ⟨v.a, v.b, 0, ⟨#[48]⟩⟩)) else wild1 o2
  | none => wild1 o2
def wildM (s : Bs) : Option (List S) :=
  if s.drop (s.length - 2) = [46, 120] then wild2 (parse (s.take (s.length - 2) ++ [46, 48])) (parse (s.take (s.length - 2) ++ [46, 48, 46, 48]))
  else none
/-- Where a word's version begins: at its first v, or at its own begin. -/
def vAt (s : Bs) : Nat := (Go.Lib.indexByte s 118).toNat
def meant2 (g : Bs) : Option V → Option (List S)
  | some v => signedM g v
  | none => none
/-- A word. -/
def meantM (s : Bs) : Option (List S) :=
  if s = [42] then some (notL []) else
  match wildM s with
  | some l => some l
  | none => meant2 (s.take (vAt s)) (parse (s.drop (vAt s)))
end Go.Sp
