/-
  Plain mathematics of a version's text, read part by part.
-/
import Derived.Test.YtcoakjgeadkfoaaDoorM11
namespace Go.Vr
set_option linter.unusedVariables false
open Go.Lib Go.Tx

/-- Behind the three numbers. -/
def fin (a b c : Int) (r : Bs) : Option V := match rtail r with
  | none => none
  | some p => if V.ok ⟨a, b, c, str p⟩ = true then some ⟨a, b, c, str p⟩ else none
/-- With so many numbers to come. -/
def go3 (i : Nat) (a b c : Int) (r : Bs) : Option V :=
  match i with
  | 0 => match rstep 118 r with
    | none => none
    | some (a, s1) => match rstep 46 s1 with
      | none => none
      | some (b, s2) => match rstep 46 s2 with
        | none => none
        | some (c, s3) => fin a b c s3
  | 1 => match rstep 46 r with
      | none => none
      | some (b, s2) => match rstep 46 s2 with
        | none => none
        | some (c, s3) => fin a b c s3
  | 2 => match rstep 46 r with
        | none => none
        | some (c, s3) => fin a b c s3
  | _ => fin a b c r
theorem parse_go (s : Bs) : parse s = go3 0 0 0 0 s := rfl

theorem drop_at (s : ByteArray) (t : Nat) (h : t < s.size) : s.data.toList.drop t = s[t] :: s.data.toList.drop (t + 1) := by
  rw [List.drop_eq_getElem_cons (by simpa using h)]; rfl
theorem drop_end (s : ByteArray) (t : Nat) (h : s.size ≤ t) : s.data.toList.drop t = [] := List.drop_of_length_le (by simpa using h)

theorem rstep_end (d : UInt8) (s : ByteArray) (t : Nat) (h : s.size ≤ t) : rstep d (s.data.toList.drop t) = none := by rw [drop_end s t h]; rfl
theorem rstep_ne (d : UInt8) (s : ByteArray) (t : Nat) (h : t < s.size) (hc : s[t] ≠ d) : rstep d (s.data.toList.drop t) = none := by
  rw [drop_at s t h]
  show (if _ then _ else _) = _
  rw [if_neg hc]
/-- Digits from f on, up to k. -/
def DigTo (s : ByteArray) (f k : Nat) : Prop := f ≤ k ∧ k ≤ s.size ∧ (s.extract f k).data.toList.all isDig = true
theorem ext_list (s : ByteArray) (f k : Nat) : (s.extract f k).data.toList = (s.data.toList.drop f).take (k - f) := extract_data s f k
theorem DigTo.start (s : ByteArray) (f : Nat) (h : f ≤ s.size) : DigTo s f f := ⟨Nat.le_refl _, h, by rw [ext_list]; simp⟩
theorem DigTo.next {s : ByteArray} {f k : Nat} (h : DigTo s f k) (hk : k < s.size) (hd : isDig s[k] = true) : DigTo s f (k + 1) := by
  refine ⟨by have := h.1; omega, hk, ?_⟩
  have hh := h.2.2
  have h1 := h.1
  rw [ext_list] at hh ⊢
  rw [show k + 1 - f = (k - f) + 1 by omega, List.take_add_one, List.all_append, hh]
  have e : (s.data.toList.drop f)[k - f]? = some s[k] := by
    rw [List.getElem?_drop, show f + (k - f) = k by omega]
    exact data_getElem? s k hk
  rw [e]; simp [hd]
theorem DigTo.done {s : ByteArray} {f k : Nat} (h : DigTo s f k) (hk : s.size ≤ k ∨ ∃ hk : k < s.size, isDig s[k] = false) : (s.data.toList.drop f).takeWhile isDig = (s.extract f k).data.toList ∧ (s.data.toList.drop f).dropWhile isDig = s.data.toList.drop k := by
  have h1 := h.1
  have e : s.data.toList.drop f = (s.extract f k).data.toList ++ s.data.toList.drop k := by
    rw [ext_list]
    have := List.take_append_drop (k - f) (s.data.toList.drop f)
    rw [List.drop_drop, show f + (k - f) = k by omega] at this
    exact this.symm
  rw [e]
  refine tw_app _ _ h.2.2 fun c t hc => ?_
  rcases hk with hk | ⟨hk, hd⟩
  · rw [drop_end s k hk] at hc; cases hc
  · rw [drop_at s k hk] at hc
    injection hc with hc
    rw [← hc]; exact hd
theorem rstep_eq (d : UInt8) (s : ByteArray) (t k : Nat) (h : t < s.size) (hc : s[t] = d) (hD : DigTo s (t + 1) k) (hk : s.size ≤ k ∨ ∃ hk : k < s.size, isDig s[k] = false) :
    rstep d (s.data.toList.drop t) = if okNum (s.extract (t + 1) k).data.toList = true then some (numVal (s.extract (t + 1) k).data.toList, s.data.toList.drop k) else none := by
  obtain ⟨e1, e2⟩ := hD.done hk
  rw [drop_at s t h]
  show (if _ then _ else _) = _
  rw [if_pos hc, e1, e2]
theorem okNum_bd (l : Bs) (h : okNum l = true) : 0 ≤ numVal l ∧ numVal l ≤ 999999999 ∧ numR l = numVal l := by
  have h0 := h
  unfold okNum at h
  simp only [Bool.and_eq_true, decide_eq_true_eq] at h
  have h1 := numVal_lt l h.2
  have h2 : (10 : Int) ^ l.length ≤ 10 ^ 9 := by
    have : ((10 ^ l.length : Nat) : Int) ≤ ((10 ^ 9 : Nat) : Int) := Int.ofNat_le.2 (Nat.pow_le_pow_right (by omega) h.1.1.2)
    rw [Int.natCast_pow, Int.natCast_pow] at this
    exact this
  have e : (10 : Int) ^ 9 = 1000000000 := by decide
  refine ⟨numVal_nonneg l h.2, by omega, ?_⟩
  rw [numR, if_pos h0]

theorem fin_end (x y z : Int) (s : ByteArray) (t : Nat) (h : s.size ≤ t) : fin x y z (s.data.toList.drop t) = if verOk x y z [] = true then some ⟨x, y, z, ⟨#[]⟩⟩ else none := by rw [drop_end s t h]; rfl
theorem fin_ne (x y z : Int) (s : ByteArray) (t : Nat) (h : t < s.size) (hc : s[t] ≠ 45) : fin x y z (s.data.toList.drop t) = none := by
  have : rtail (s.data.toList.drop t) = none := by
    rw [drop_at s t h]
    show (if _ then _ else _) = _
    rw [if_neg (fun e => hc e.1)]
  unfold fin; rw [this]
theorem fin_one (x y z : Int) (s : ByteArray) (t : Nat) (h : t + 1 = s.size) : fin x y z (s.data.toList.drop t) = none := by
  have : rtail (s.data.toList.drop t) = none := by
    rw [drop_at s t (by omega), drop_end s (t + 1) (by omega)]
    show (if _ then _ else _) = _
    rw [if_neg (fun e => e.2 rfl)]
  unfold fin; rw [this]
theorem fin_more (x y z : Int) (s : ByteArray) (t : Nat) (h : t + 1 < s.size) (hc : s[t] = 45) : fin x y z (s.data.toList.drop t) = if verOk x y z (s.extract (t + 1) s.size).data.toList = true then some ⟨x, y, z, s.extract (t + 1) s.size⟩ else none := by
  have hne : s.data.toList.drop (t + 1) ≠ [] := by rw [drop_at s (t + 1) h]; simp
  have : rtail (s.data.toList.drop t) = some (s.data.toList.drop (t + 1)) := by
    rw [drop_at s t (by omega)]
    show (if _ then _ else _) = _
    rw [if_pos ⟨hc, hne⟩]
  have e : str (s.data.toList.drop (t + 1)) = s.extract (t + 1) s.size := by rw [← extract_to_end, str_of]
  unfold fin
  rw [this]
  simp only [e]
  rfl

end Go.Vr
