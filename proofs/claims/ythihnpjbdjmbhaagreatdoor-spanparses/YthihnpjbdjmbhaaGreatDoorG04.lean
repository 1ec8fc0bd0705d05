/-
  Plain mathematics of pseudo versions, and of numbers in order.
  Contracts of the reference's small functions: numbers, digits, signs.
  Contracts of the reference's digits and word.
-/
import Derived.Test.YthihnpjbdjmbhaaGreatDoorG03
import Derived.Test.YthihnpjbdjmbhaaGreatDoorProg
import Derived.WalkKit
import Derived.WalkSpells
import Derived.WalkLawsBesides
import Derived.Laws.BytesArg

namespace Go.Vr
set_option linter.unusedVariables false
open Go.Lib Go.Tx

theorem parse_parts (v : V) (ha : 0 ≤ v.a ∧ v.a < 1000000000) (hb : 0 ≤ v.b ∧ v.b < 1000000000) (hc : 0 ≤ v.c ∧ v.c < 1000000000) : parse (txt v) = if v.ok = true then some v else none := by
  have dot : ∀ x : Bs, ∀ c t, (46 : UInt8) :: x = c :: t → isDig c = false := by
    intro x c t e; injection e with e; rw [← e]; rfl
  have e1 := rstep_of 118 v.a (46 :: (itoa v.b ++ 46 :: (itoa v.c ++ tail v.p.data.toList))) ha.1 ha.2 (dot _)
  have e2 := rstep_of 46 v.b (46 :: (itoa v.c ++ tail v.p.data.toList)) hb.1 hb.2 (dot _)
  have e3 := rstep_of 46 v.c (tail v.p.data.toList) hc.1 hc.2 (tail_head _)
  have e4 := rtail_of v.p.data.toList
  have e5 : (⟨v.a, v.b, v.c, str v.p.data.toList⟩ : V) = v := by rw [str_of]
  unfold parse
  rw [show txt v = 118 :: (itoa v.a ++ 46 :: (itoa v.b ++ 46 :: (itoa v.c ++ tail v.p.data.toList))) from rfl, e1]
  simp only [e2, e3, e4, e5]

/-! Numbers in order -/

theorem numVal_cons (c : UInt8) (l : Bs) : numVal (c :: l) = ((c.toNat : Int) - 48) * 10 ^ l.length + numVal l := by
  have key : ∀ (l : Bs) (a : Int), l.foldl (fun (n : Int) c => n * 10 + ((c.toNat : Int) - 48)) a = a * 10 ^ l.length + numVal l := by
    intro l
    induction l with
    | nil => intro a; simp [numVal]
    | cons d l ih =>
      intro a
      have e2 : numVal (d :: l) = (0 * 10 + ((d.toNat : Int) - 48)) * 10 ^ l.length + numVal l := ih _
      rw [List.foldl_cons, ih, e2, List.length_cons, Int.pow_succ, Int.add_mul, Int.add_mul]
      rw [show a * 10 * 10 ^ l.length = a * (10 ^ l.length * 10) by rw [Int.mul_assoc, Int.mul_comm 10 (10 ^ l.length)]]
      simp [Int.add_assoc]
  have := key l (0 * 10 + ((c.toNat : Int) - 48))
  show l.foldl _ (0 * 10 + ((c.toNat : Int) - 48)) = _
  rw [this]; simp

theorem cmp_digits : ∀ (l k : Bs), l.length = k.length → l.all isDig = true → k.all isDig = true → compareBytes l k = compareInt (numVal l) (numVal k)
  | [], [], _, _, _ => rfl
  | a :: l, b :: k, hl, h1, h2 => by
    simp only [List.length_cons, Nat.add_right_cancel_iff] at hl
    simp only [List.all_cons, Bool.and_eq_true] at h1 h2
    have ih := cmp_digits l k hl h1.2 h2.2
    have l0 := numVal_nonneg l h1.2
    have l1 := numVal_lt l h1.2
    have k0 := numVal_nonneg k h2.2
    have k1 := numVal_lt k h2.2
    have ca := h1.1
    have cb := h2.1
    simp [isDig] at ca cb
    rw [numVal_cons a l, numVal_cons b k]
    rw [hl] at l1 ⊢
    generalize hP : (10 : Int) ^ k.length = P at *
    have hP0 : 0 < P := by omega
    unfold compareBytes
    have e1 : a < b ↔ (a.toNat : Int) < b.toNat := by rw [UInt8.lt_iff_toNat_lt]; omega
    have e2 : b < a ↔ (b.toNat : Int) < a.toNat := by rw [UInt8.lt_iff_toNat_lt]; omega
    by_cases g1 : a < b
    · rw [if_pos g1]
      have := e1.1 g1
      have hm : ((a.toNat : Int) - 48 + 1) * P ≤ ((b.toNat : Int) - 48) * P := Int.mul_le_mul_of_nonneg_right (by omega) (by omega)
      rw [Int.add_mul] at hm
      unfold compareInt
      rw [if_pos (by omega)]
    · rw [if_neg g1]
      by_cases g2 : b < a
      · rw [if_pos g2]
        have := e2.1 g2
        have hm : ((b.toNat : Int) - 48 + 1) * P ≤ ((a.toNat : Int) - 48) * P := Int.mul_le_mul_of_nonneg_right (by omega) (by omega)
        rw [Int.add_mul] at hm
        unfold compareInt
        rw [if_neg (by omega), if_pos (by omega)]
      · rw [if_neg g2, ih]
        have : a.toNat = b.toNat := by
          have n1 : ¬ (a.toNat : Int) < b.toNat := fun k => g1 (e1.2 k)
          have n2 : ¬ (b.toNat : Int) < a.toNat := fun k => g2 (e2.2 k)
          omega
        rw [this]
        generalize ((b.toNat : Int) - 48) * P = Q
        unfold compareInt
        repeat' split
        all_goals omega

theorem nDigits_low (u : Nat) : ∀ k, nDigits u = k + 2 → 10 ^ (k + 1) ≤ u := by
  intro k
  induction k generalizing u with
  | zero =>
    intro h
    by_cases h10 : u < 10
    · rw [nDigits_small h10] at h; omega
    · simp; omega
  | succ k ih =>
    intro h
    by_cases h10 : u < 10
    · rw [nDigits_small h10] at h; omega
    · rw [nDigits_big h10] at h
      have := ih (u / 10) (by omega)
      rw [Nat.pow_succ]; omega
theorem nDigits_mono (x y : Nat) (h : nDigits x < nDigits y) : x < y := by
  have h1 := lt_pow_nDigits x
  have h2 := nDigits_pos x
  have h3 := nDigits_low y (nDigits y - 2) (by omega)
  have h4 : (10 : Nat) ^ nDigits x ≤ 10 ^ (nDigits y - 2 + 1) := Nat.pow_le_pow_right (by omega) (by omega)
  omega
theorem dec_digs (n : Nat) : digs (decDigits n) = true := by
  unfold digs
  rw [dec_dig]
  cases e : decDigits n with
  | nil => exact absurd e (dec_ne n)
  | cons c l => rfl
/-- Words of digits are in the order of their numbers. -/
theorem dec_cmp (x y : Nat) : cmpW (decDigits x) (decDigits y) = compareInt x y := by
  unfold cmpW kind klen
  rw [if_pos (dec_digs x), if_pos (dec_digs y), if_pos (dec_digs x), if_pos (dec_digs y), ord_int.refl, seq_zero, decDigits_length, decDigits_length]
  by_cases h1 : nDigits x < nDigits y
  · have := nDigits_mono x y h1
    have e1 : compareInt (nDigits x : Int) (nDigits y : Int) = -1 := if_pos (by omega)
    have e2 : compareInt (x : Int) (y : Int) = -1 := if_pos (by omega)
    rw [e1, e2]; rfl
  · by_cases h2 : nDigits y < nDigits x
    · have := nDigits_mono y x h2
      have e1 : compareInt (nDigits x : Int) (nDigits y : Int) = 1 := by unfold compareInt; rw [if_neg (by omega), if_pos (by omega)]
      have e2 : compareInt (x : Int) (y : Int) = 1 := by unfold compareInt; rw [if_neg (by omega), if_pos (by omega)]
      rw [e1, e2]; rfl
    · have e1 : compareInt (nDigits x : Int) (nDigits y : Int) = 0 := by unfold compareInt; rw [if_neg (by omega), if_neg (by omega)]
      rw [e1, seq_zero, cmp_digits _ _ (by rw [decDigits_length, decDigits_length]; omega) (dec_dig x) (dec_dig y), dec_val, dec_val]

/-! Pseudo versions -/

def isHex (c : UInt8) : Bool := isDig c || (decide (97 ≤ (c.toNat : Int)) && decide ((c.toNat : Int) ≤ 102))
/-- Is it a revision's id? -/
def idOk (s : Bs) : Bool := decide (12 ≤ s.length) && decide (s.length ≤ 40) && s.all isHex
/-- A time's 14 digits. -/
def pad (t : Int) : Bs := List.replicate (14 - (itoa t).length) 48 ++ itoa t
def stamp (t : Int) (id : Bs) : Bs := pad t ++ 45 :: id.take 12
def timeOk (t : Int) : Bool := decide (0 ≤ t) && decide (t ≤ 99999999999999)
/-- What stands ahead of the stamp. -/
def lead (has : Bool) (p : Bs) : Bs := if has = true then (if p = [] then [48, 46] else p ++ [46, 48, 46]) else []
def pver (has : Bool) (v : V) (t : Int) (id : Bs) : V :=
  if has = true then (if v.p.data.toList = [] then ⟨v.a, v.b, v.c + 1, str (lead true v.p.data.toList ++ stamp t id)⟩ else ⟨v.a, v.b, v.c, str (lead true v.p.data.toList ++ stamp t id)⟩)
  else ⟨0, 0, 0, str (lead false v.p.data.toList ++ stamp t id)⟩
def pseudo (has : Bool) (v : V) (t : Int) (id : Bs) : Option V :=
  if timeOk t = true ∧ idOk id = true then (if (pver has v t id).ok = true then some (pver has v t id) else none) else none

/-- What the last word says. -/
def isStamp (w : Bs) : Bool := decide (w.length = 27) && decide (w[14]? = some 45) && (w.take 14).all isDig && (w.drop 15).all isHex
def lastW (p : Bs) : Bs := (words p).getLast (words_ne p)
def behind (p : Bs) : Option (Int × Bs) := if isStamp (lastW p) = true then some (numVal ((lastW p).take 14), (lastW p).drop 15) else none

theorem nDigits_le (u : Nat) (k : Nat) (h : u < 10 ^ (k + 1)) : nDigits u ≤ k + 1 := by
  by_cases h2 : nDigits u ≤ k + 1
  · exact h2
  · exfalso
    have := nDigits_low u (nDigits u - 2) (by omega)
    have h4 : (10 : Nat) ^ (k + 1) ≤ 10 ^ (nDigits u - 2 + 1) := Nat.pow_le_pow_right (by omega) (by omega)
    omega
theorem time_len (t : Int) (h : timeOk t = true) : (itoa t).length ≤ 14 ∧ 1 ≤ (itoa t).length ∧ (itoa t).all isDig = true ∧ numVal (itoa t) = t := by
  simp only [timeOk, Bool.and_eq_true, decide_eq_true_eq] at h
  obtain ⟨k, rfl⟩ := Int.eq_ofNat_of_zero_le h.1
  rw [itoa_nat, decDigits_length]
  exact ⟨nDigits_le k 13 (by simp; omega), nDigits_pos k, dec_dig k, dec_val k⟩
theorem time_iff (t : Int) (h0 : 0 ≤ t) : (itoa t).length ≤ 14 ↔ t ≤ 99999999999999 := by
  obtain ⟨k, rfl⟩ := Int.eq_ofNat_of_zero_le h0
  rw [itoa_nat, decDigits_length]
  constructor
  · intro h
    have h1 := lt_pow_nDigits k
    have h4 : (10 : Nat) ^ nDigits k ≤ 10 ^ 14 := Nat.pow_le_pow_right (by omega) h
    have : (10 : Nat) ^ 14 = 100000000000000 := by decide
    omega
  · intro h
    exact nDigits_le k 13 (by simp; omega)
theorem zeros_val (n : Nat) (l : Bs) : numVal (List.replicate n 48 ++ l) = numVal l := by
  induction n with
  | zero => rfl
  | succ n ih => rw [List.replicate_succ, List.cons_append, numVal_cons, ih]; simp
theorem pad_says (t : Int) (h : timeOk t = true) : (pad t).length = 14 ∧ (pad t).all isDig = true ∧ numVal (pad t) = t := by
  obtain ⟨h1, h2, h3, h4⟩ := time_len t h
  unfold pad
  refine ⟨by rw [List.length_append, List.length_replicate]; omega, ?_, by rw [zeros_val, h4]⟩
  rw [List.all_append, h3, Bool.and_true, List.all_eq_true]
  intro c hc
  rw [List.mem_replicate] at hc
  rw [hc.2]; rfl
theorem hex_wd (c : UInt8) (h : isHex c = true) : isWd c = true := by
  unfold isHex at h; unfold isWd isLet
  cases hd : isDig c with
  | true => rfl
  | false =>
    rw [hd] at h
    simp at h ⊢
    omega
theorem dig_wd (c : UInt8) (h : isDig c = true) : isWd c = true := by unfold isWd; rw [h]; rfl
theorem all_imp {p q : UInt8 → Bool} (h : ∀ c, p c = true → q c = true) (l : Bs) (hl : l.all p = true) : l.all q = true := by
  rw [List.all_eq_true] at *
  exact fun c hc => h c (hl c hc)
theorem all_take {p : UInt8 → Bool} (n : Nat) (l : Bs) (hl : l.all p = true) : (l.take n).all p = true := by
  rw [List.all_eq_true] at *
  exact fun c hc => hl c (List.mem_of_mem_take hc)
theorem stamp_says (t : Int) (id : Bs) (h : timeOk t = true) (hi : idOk id = true) :
    (stamp t id).length = 27 ∧ (stamp t id).all isWd = true ∧ digs (stamp t id) = false ∧ wordOk (stamp t id) = true ∧ isStamp (stamp t id) = true ∧ (stamp t id).take 14 = pad t ∧ (stamp t id).drop 15 = id.take 12 := by
  obtain ⟨p1, p2, p3⟩ := pad_says t h
  simp only [idOk, Bool.and_eq_true, decide_eq_true_eq] at hi
  have hl : (stamp t id).length = 27 := by unfold stamp; rw [List.length_append, List.length_cons, List.length_take]; omega
  have hw : (stamp t id).all isWd = true := by
    unfold stamp
    rw [List.all_append, List.all_cons, all_imp dig_wd _ p2, all_imp hex_wd _ (all_take 12 id hi.2)]; rfl
  have hd : digs (stamp t id) = false := by
    unfold digs stamp
    rw [List.all_append, List.all_cons]
    have : isDig 45 = false := rfl
    rw [this]; simp
  have ht : (stamp t id).take 14 = pad t := by unfold stamp; rw [← p1]; simp
  have hr : (stamp t id).drop 15 = id.take 12 := by
    unfold stamp
    rw [show 15 = (pad t).length + 1 by omega, List.drop_append]; simp
  have h14 : (stamp t id)[14]? = some 45 := by
    unfold stamp
    rw [List.getElem?_append_right (by omega), p1]; rfl
  refine ⟨hl, hw, hd, ?_, ?_, ht, hr⟩
  · unfold wordOk
    rw [hw, hd]
    cases e : stamp t id with
    | nil => rw [e] at hl; simp at hl
    | cons c l => rfl
  · unfold isStamp
    rw [hl, h14, ht, hr, p2, all_take 12 id hi.2]; rfl

theorem nodot_wd (c : UInt8) (h : isWd c = true) : c ≠ 46 := by rintro rfl; revert h; decide
theorem words_stamp (has : Bool) (p : Bs) (s : Bs) (hs : s.all isWd = true) : words (lead has p ++ s) = (if has = true then (if p = [] then [[48]] else words p ++ [[48]]) else []) ++ [s] := by
  have h1 : words s = [s] := words_one s (fun c hc => nodot_wd c (by rw [List.all_eq_true] at hs; exact hs c hc))
  unfold lead
  cases has with
  | false => simpa using h1
  | true =>
    simp only [if_true]
    by_cases e : p = []
    · rw [if_pos e, if_pos e]
      show words ([48] ++ 46 :: s) = _
      rw [words_app, h1]; rfl
    · rw [if_neg e, if_neg e]
      have : (p ++ [46, 48, 46]) ++ s = p ++ 46 :: ([48] ++ 46 :: s) := by simp
      rw [this, words_app, words_app, h1]
      show words p ++ ([[48]] ++ [s]) = _
      rw [List.append_assoc]
theorem lead_ne (has : Bool) (p s : Bs) (hs : s ≠ []) : lead has p ++ s ≠ [] := by
  intro e
  have := List.append_eq_nil_iff.1 e
  exact hs this.2
/-- Whether it may be hangs on the version alone. -/
theorem pver_ok (has : Bool) (v : V) (t u : Int) (id jd : Bs) (h : timeOk t = true) (hu : timeOk u = true) (hi : idOk id = true) (hj : idOk jd = true) : (pver has v t id).ok = (pver has v u jd).ok := by
  obtain ⟨s1, s2, s3, s4, s5, s6, s7⟩ := stamp_says t id h hi
  obtain ⟨r1, r2, r3, r4, r5, r6, r7⟩ := stamp_says u jd hu hj
  have key : preOk (lead has v.p.data.toList ++ stamp t id) = preOk (lead has v.p.data.toList ++ stamp u jd) := by
    have n1 : stamp t id ≠ [] := fun e => by rw [e] at s1; simp at s1
    have n2 : stamp u jd ≠ [] := fun e => by rw [e] at r1; simp at r1
    unfold preOk
    rw [words_stamp _ _ _ s2, words_stamp _ _ _ r2, List.length_append, List.length_append, s1, r1, List.all_append, List.all_append]
    have e1 : (lead has v.p.data.toList ++ stamp t id).isEmpty = false := by
      cases e : lead has v.p.data.toList ++ stamp t id with
      | nil => exact absurd e (lead_ne _ _ _ n1)
      | cons c l => rfl
    have e2 : (lead has v.p.data.toList ++ stamp u jd).isEmpty = false := by
      cases e : lead has v.p.data.toList ++ stamp u jd with
      | nil => exact absurd e (lead_ne _ _ _ n2)
      | cons c l => rfl
    rw [e1, e2]
    simp [s4, r4]
  unfold pver V.ok verOk
  cases has with
  | false => simp only [Bool.false_eq_true, if_false, str_list, key]
  | true =>
    simp only [if_true]
    split
    · simp only [str_list, key]
    · simp only [str_list, key]

theorem bytes_app : ∀ (l k r s : Bs), l.length = k.length → compareBytes (l ++ r) (k ++ s) = seq (compareBytes l k) (compareBytes r s)
  | [], [], _, _, _ => rfl
  | a :: l, b :: k, r, s, h => by
    have ih := bytes_app l k r s (by simpa using h)
    rw [List.cons_append, List.cons_append]
    have e : ∀ x y : Bs, compareBytes (a :: x) (b :: y) = if a < b then -1 else if b < a then 1 else compareBytes x y := fun _ _ => rfl
    rw [e, e]
    split
    · rfl
    · split
      · rfl
      · exact ih
theorem cmp_stamp (t u : Int) (id jd : Bs) (h : timeOk t = true) (hu : timeOk u = true) (hi : idOk id = true) (hj : idOk jd = true) :
    cmpW (stamp t id) (stamp u jd) = seq (compareInt t u) (compareBytes (id.take 12) (jd.take 12)) := by
  obtain ⟨s1, s2, s3, s4, s5, s6, s7⟩ := stamp_says t id h hi
  obtain ⟨r1, r2, r3, r4, r5, r6, r7⟩ := stamp_says u jd hu hj
  obtain ⟨p1, p2, p3⟩ := pad_says t h
  obtain ⟨q1, q2, q3⟩ := pad_says u hu
  unfold cmpW kind klen
  rw [s3, r3]
  simp only [Bool.false_eq_true, if_false, ord_int.refl, seq_zero]
  unfold stamp
  rw [bytes_app _ _ _ _ (by omega), cmp_digits _ _ (by omega) p2 q2, p3, q3]
  congr 1
theorem cmp_pver (has : Bool) (v : V) (t u : Int) (id jd : Bs) (h : timeOk t = true) (hu : timeOk u = true) (hi : idOk id = true) (hj : idOk jd = true) :
    cmpV (pver has v t id) (pver has v u jd) = seq (compareInt t u) (compareBytes (id.take 12) (jd.take 12)) := by
  obtain ⟨s1, s2, s3, s4, s5, s6, s7⟩ := stamp_says t id h hi
  obtain ⟨r1, r2, r3, r4, r5, r6, r7⟩ := stamp_says u jd hu hj
  have n1 : stamp t id ≠ [] := fun e => by rw [e] at s1; simp at s1
  have n2 : stamp u jd ≠ [] := fun e => by rw [e] at r1; simp at r1
  have key : cmpP (lead has v.p.data.toList ++ stamp t id) (lead has v.p.data.toList ++ stamp u jd) = seq (compareInt t u) (compareBytes (id.take 12) (jd.take 12)) := by
    unfold cmpP none1
    rw [if_neg (lead_ne _ _ _ n1), if_neg (lead_ne _ _ _ n2), ord_int.refl, seq_zero, words_stamp _ _ _ s2, words_stamp _ _ _ r2, lex_same ord_word]
    show seq (cmpW (stamp t id) (stamp u jd)) 0 = _
    rw [seq_right, cmp_stamp t u id jd h hu hi hj]
  unfold pver cmpV
  cases has with
  | false => simp only [Bool.false_eq_true, if_false, str_list, ord_int.refl, seq_zero, key]
  | true =>
    simp only [if_true]
    split
    · simp only [str_list, ord_int.refl, seq_zero, key]
    · simp only [str_list, ord_int.refl, seq_zero, key]
/-- More than what it is behind. -/
theorem pver_more (v : V) (t : Int) (id : Bs) (h : timeOk t = true) (hi : idOk id = true) : cmpV (pver true v t id) v = 1 := by
  obtain ⟨s1, s2, s3, s4, s5, s6, s7⟩ := stamp_says t id h hi
  have n1 : stamp t id ≠ [] := fun e => by rw [e] at s1; simp at s1
  have ha := ord_ver.anti v (pver true v t id)
  unfold pver at ha ⊢
  simp only [if_true] at ha ⊢
  split
  · have : compareInt (v.c + 1) v.c = 1 := by unfold compareInt; rw [if_neg (by omega), if_pos (by omega)]
    unfold cmpV
    simp only [ord_int.refl, seq_zero, this]; rfl
  · rename_i e
    rw [if_neg e] at ha
    rw [ha]
    have hw : words (lead true v.p.data.toList ++ stamp t id) = words v.p.data.toList ++ [48] :: [stamp t id] := by
      rw [words_stamp _ _ _ s2]; simp [e]
    have hn : none1 (lead true v.p.data.toList ++ stamp t id) = 0 := if_neg (lead_ne true v.p.data.toList _ n1)
    have hm : none1 v.p.data.toList = 0 := if_neg e
    unfold cmpV cmpP
    simp only [str_list, ord_int.refl, seq_zero, hn, hm, hw, lex_more ord_word]; rfl
/-- Less than the next one. -/
theorem pver_less (has : Bool) (v : V) (t : Int) (id : Bs) (h : timeOk t = true) (hi : idOk id = true) (h0 : has = false → v = V.zero) :
    cmpV (pver has v t id) ⟨v.a, v.b, if has = true ∧ v.p.data.toList ≠ [] then v.c else v.c + 1, ByteArray.empty⟩ = -1 := by
  obtain ⟨s1, s2, s3, s4, s5, s6, s7⟩ := stamp_says t id h hi
  have n1 : stamp t id ≠ [] := fun e => by rw [e] at s1; simp at s1
  unfold pver
  cases has with
  | false =>
    rw [h0 rfl]
    rfl
  | true =>
    simp only [if_true, true_and]
    have key : ∀ c, cmpV ⟨v.a, v.b, c, str (lead true v.p.data.toList ++ stamp t id)⟩ ⟨v.a, v.b, c, ByteArray.empty⟩ = -1 := by
      intro c
      have hn : none1 (lead true v.p.data.toList ++ stamp t id) = 0 := if_neg (lead_ne true v.p.data.toList _ n1)
      unfold cmpV cmpP
      simp only [str_list, ord_int.refl, seq_zero, hn]
      rfl
    split
    · rename_i e
      rw [if_neg (by simp [e])]
      exact key _
    · exact key _
theorem behind_pver (has : Bool) (v : V) (t : Int) (id : Bs) (h : timeOk t = true) (hi : idOk id = true) : behind (pver has v t id).p.data.toList = some (t, id.take 12) := by
  obtain ⟨s1, s2, s3, s4, s5, s6, s7⟩ := stamp_says t id h hi
  have hp : (pver has v t id).p.data.toList = lead has v.p.data.toList ++ stamp t id := by
    unfold pver
    cases has with
    | false => rfl
    | true => simp only [if_true]; split <;> rfl
  have hl : lastW (pver has v t id).p.data.toList = stamp t id := by
    unfold lastW
    have := words_stamp has v.p.data.toList (stamp t id) s2
    simp only [hp, this, List.getLast_append, List.getLast_singleton]
    simp
  unfold behind
  rw [hl, if_pos s5, s6, s7, (pad_says t h).2.2]

end Go.Vr

namespace Go.Proofs.YthihnpjbdjmbhaaGreatDoor
set_option linter.unusedVariables false
open Go.RowKit Go.Vr

theorem ret_int {k : IntKind} {a b : Int} (h : a = b) : Ending.returned (.int k a) = .returned (.int k b) := by rw [h]
theorem ret_bool {a b : Bool} (h : a = b) : Ending.returned (.bool a) = .returned (.bool b) := by rw [h]
theorem ret_str {a b : ByteArray} (h : a = b) : Ending.returned (.string a) = .returned (.string b) := by rw [h]
theorem ret_num {a b : Int} {c d : Bool} (h : a = b) (k : c = d) : Ending.returned (.tuple #[.int .i64 a, .bool c]) = .returned (.tuple #[.int .i64 b, .bool d]) := by rw [h, k]

set_option maxHeartbeats 400000 in
theorem rnumber_any (s : ByteArray) (w : World) (hs : s.size ≤ maxLen) :
    Calls Tryz.prog 21 #[.string s] w fun e w' => e = .returned (.tuple #[.int .i64 (Tx.numR s.data.toList), .bool (Tx.okNum s.data.toList)]) ∧ w' = w := by
  unfold maxLen at hs
  by_cases h1 : s.size < 1
  · have HF : Hid (Tx.okNum s.data.toList = false) := Tx.okNum_short s h1
    have hd : decide ((s.size : Int) < 1) = true := by simp; omega
    go_enter Tryz.func21, Tryz.ntmps21
    go_wp2
    go_ret2
    exact ⟨ret_num (by simp [Tx.numR, HF.out]) HF.out.symm, rfl⟩
  have d1 : decide ((s.size : Int) < 1) = false := by simp; omega
  by_cases h9 : 9 < s.size
  · have HF : Hid (Tx.okNum s.data.toList = false) := Tx.okNum_long s h9
    have hd : decide ((9 : Int) < s.size) = true := by simp; omega
    go_enter Tryz.func21, Tryz.ntmps21
    go_wp2
    go_ret2
    exact ⟨ret_num (by simp [Tx.numR, HF.out]) HF.out.symm, rfl⟩
  have d9 : decide ((9 : Int) < s.size) = false := by simp; omega
  by_cases hz : 1 < s.size ∧ ((s[0]).toNat : Int) = 48
  · obtain ⟨hz1, hz2⟩ := hz
    have HF : Hid (Tx.okNum s.data.toList = false) := Tx.okNum_zero s hz1 hz2
    have dz : decide ((1 : Int) < s.size) = true := by simp; omega
    have dy : (((s[0]).toNat : Int) == 48) = true := by simpa using hz2
    clear hz2
    go_enter Tryz.func21, Tryz.ntmps21
    go_wp2
    go_ret2
    exact ⟨ret_num (by simp [Tx.numR, HF.out]) HF.out.symm, rfl⟩
  have HE : Hid (Tx.okNum s.data.toList = s.data.toList.all Tx.isDig) := Tx.okNum_else s (by omega) (by omega) (by
    by_cases h2 : s.size = 1
    · exact .inl h2
    · exact .inr (fun e => hz ⟨by omega, e⟩))
  have H9 : s.size ≤ 9 := by omega
  by_cases hq : 1 < s.size
  case' pos =>
    have dz : decide ((1 : Int) < s.size) = true := by simp; omega
    have dy : (((s[0]).toNat : Int) == 48) = false := by simp; intro e; exact hz ⟨hq, e⟩
    clear hz
  case' neg =>
    have dz : decide ((1 : Int) < s.size) = false := by simp; omega
    clear hz
  all_goals
    go_enter Tryz.func21, Tryz.ntmps21
    go_wp2
    go_loop [4, 5] (fun n i => ∃ k : Nat, k ≤ s.size ∧ i = .int .i64 k ∧ n = .int .i64 (Tx.numVal (s.data.toList.take k)) ∧ Hid ((s.data.toList.take k).all Tx.isDig = true)) (fun _ i => s.size - (RowKit.intOf i).toNat)
    case atStart => exact ⟨0, Nat.zero_le _, rfl, rfl, rfl⟩
    case round =>
      obtain ⟨k, hk, rfl, rfl, hp⟩ := hrel
      obtain ⟨b1, b2⟩ := Tx.numVal_bd9 s k hk (by omega) hp.out
      by_cases hlt : k < s.size
      · have HV : Hid (Tx.numVal (s.data.toList.take (k + 1)) = Tx.numVal (s.data.toList.take k) * 10 + (((s[k]).toNat : Int) - 48)) := Tx.numVal_take s k hlt
        by_cases hg1 : ((s[k]).toNat : Int) < 48
        · have HF : Hid (s.data.toList.all Tx.isDig = false) := Tx.notDig_false s k hlt (by simp [Tx.isDig]; omega)
          go_wp2
          go_ret2
          exact ⟨ret_num (by simp [Tx.numR, HE.out, HF.out]) (by rw [HE.out, HF.out]), rfl⟩
        have e1 : decide (((s[k]).toNat : Int) < 48) = false := by simp; omega
        by_cases hg2 : 57 < ((s[k]).toNat : Int)
        · have HF : Hid (s.data.toList.all Tx.isDig = false) := Tx.notDig_false s k hlt (by simp [Tx.isDig]; omega)
          go_wp2
          go_ret2
          exact ⟨ret_num (by simp [Tx.numR, HE.out, HF.out]) (by rw [HE.out, HF.out]), rfl⟩
        have e2 : decide (57 < ((s[k]).toNat : Int)) = false := by simp; omega
        have HT : Hid ((s.data.toList.take (k + 1)).all Tx.isDig = true) := by
          show List.all _ _ = true
          rw [Tx.digs_take s k hlt, hp.out]; simp [Tx.isDig]; omega
        go_wp2
        go_round
        case rel => exact ⟨k + 1, by omega, by go_num, by rw [HV.out]; try go_num, HT⟩
        case measure => simp [RowKit.intOf]; omega
      · have HT : Hid (s.data.toList.all Tx.isDig = true) := by rw [← Tx.take_all s k (by omega)]; exact hp
        have HN : Hid (Tx.numVal (s.data.toList.take k) = Tx.numVal s.data.toList) := by rw [Tx.take_all s k (by omega)]; rfl
        go_wp2
        go_ret2
        exact ⟨ret_num (by simp [Tx.numR, HE.out, HT.out, HN.out]) (by rw [HE.out, HT.out]), rfl⟩

/-- string(b) of a row of bytes just made. -/
theorem conv_new (w : World) (xs : List Int) (cap : Nat) (o : Obj) (hc : ∀ i, i < xs.length → (w.alloc o).cell? ⟨w.heap.size, i, none⟩ = some (.int .u8 (xs.getD i 0))) :
    (convert 25 9 (.slice (some ⟨w.heap.size, 0, none⟩) xs.length cap)).run Tryz.prog (w.alloc o) = .ok (.string (strOfNums xs)) (w.alloc o) :=
  run_convert_bytes_arg (w.alloc o) 25 5 Tryz.underlying25 Tryz.underlying5 w.heap.size 0 xs.length cap xs rfl (fun i hi => by rw [Nat.zero_add]; exact hc i hi) 9 Tryz.underlying9

theorem conv_one (w : World) (n : Int) :
    (convert 25 9 (.slice (some ⟨w.heap.size, 0, none⟩) 1 1)).run Tryz.prog (w.alloc (.cells #[.int .u8 n] 5)) = .ok (.string ⟨#[UInt8.ofNat n.toNat]⟩) (w.alloc (.cells #[.int .u8 n] 5)) :=
  conv_new w [n] 1 _ (fun i hi => by
    have : i = 0 := by simpa using hi
    subst this
    simp [go_sem])

set_option maxHeartbeats 400000 in
set_option maxRecDepth 100000 in
theorem rdigits_one (n : Nat) (w : World) (h : n < 10) :
    Calls Tryz.prog 97 #[.int .i64 n] w fun e w' => e = .returned (.string ⟨#[Tx.dg n]⟩) ∧ Below w.heap.size w w' := by
  have hcv := conv_one w (48 + n)
  have e0 : UInt8.ofNat (48 + (n : Int)).toNat = Tx.dg n := by rw [Tx.dg]; congr 1
  rw [e0] at hcv
  clear e0
  go_enter Tryz.func97, Tryz.ntmps97
  go_wp2_with fail
  go_ret
  exact ⟨rfl, (Below.refl _ _).alloc (Nat.le_refl _) _⟩

set_option maxHeartbeats 400000 in
set_option maxRecDepth 100000 in
theorem rdigits_fuel : ∀ (f n : Nat) (w : World), n < 10 ^ (f + 1) → f ≤ 16 →
    Calls Tryz.prog 97 #[.int .i64 n] w fun e w' => e = .returned (.string (Tx.str (Tx.digF (f + 1) n))) ∧ Below w.heap.size w w'
  | 0, n, w, h, _ => by
    have h10 : n < 10 := by simpa using h
    have := rdigits_one n w h10
    simpa [Tx.digF, h10, Tx.str] using this
  | f + 1, n, w, h, hf => by
    by_cases h10 : n < 10
    · have := rdigits_one n w h10
      simpa [Tx.digF, h10, Tx.str] using this
    · have hq : n / 10 < 10 ^ (f + 1) := by rw [Nat.pow_succ] at h; omega
      have hb : n < 1000000000000000000 := by
        have h2 : (10 : Nat) ^ (f + 1 + 1) ≤ 10 ^ 18 := Nat.pow_le_pow_right (by omega) (by omega)
        have e : (10 : Nat) ^ 18 = 1000000000000000000 := by decide
        exact Nat.lt_of_lt_of_le h (e ▸ h2)
      have e1 : ((n / 10 : Nat) : Int) = (n : Int) / 10 := by omega
      have e2 : ((n % 10 : Nat) : Int) = (n : Int) % 10 := by omega
      have IH : ∀ w, Calls Tryz.prog 97 #[.int .i64 ((n : Int) / 10)] w fun e w' => e = .returned (.string (Tx.str (Tx.digF (f + 1) (n / 10)))) ∧ Below w.heap.size w w' := fun w => e1 ▸ rdigits_fuel f (n / 10) w hq (by omega)
      have IG : ∀ w, Calls Tryz.prog 97 #[.int .i64 ((n : Int) % 10)] w fun e w' => e = .returned (.string ⟨#[Tx.dg (n % 10)]⟩) ∧ Below w.heap.size w w' := fun w => e2 ▸ rdigits_one (n % 10) w (by omega)
      have HIH : Hid _ := IH
      have HIG : Hid _ := IG
      have HE : Hid (Tx.digF (f + 2) n = Tx.digF (f + 1) (n / 10) ++ [Tx.dg (n % 10)]) := by show Tx.digF (f + 2) n = _; rw [Tx.digF, if_neg h10]
      have hl : (Tx.str (Tx.digF (f + 1) (n / 10))).size ≤ 17 := by rw [Tx.str_size]; exact Nat.le_trans (Tx.digF_len _ _) (by omega)
      clear h hq e1 e2 IH IG
      go_enter Tryz.func97, Tryz.ntmps97
      go_wp2_with fail
      refine (HIH.out _).mono ?_
      rintro e w1 ⟨rfl, hb1⟩
      go_wp2_with fail
      refine (HIG.out _).mono ?_
      rintro e w2 ⟨rfl, hb2⟩
      go_wp2_with fail
      go_ret
      exact ⟨ret_str (by rw [HE.out]; exact Tx.str_app _ [_]), hb1.trans (hb2.mono hb1.size)⟩

/-- Of a number its digits. -/
theorem rdigits_any (n : Int) (w : World) (h0 : 0 ≤ n) (h : n < 100000000000000000) :
    Calls Tryz.prog 97 #[.int .i64 n] w fun e w' => e = .returned (.string (Tx.str (Lib.itoa n))) ∧ Below w.heap.size w w' := by
  obtain ⟨k, rfl⟩ := Int.eq_ofNat_of_zero_le h0
  have hk : k < 10 ^ (16 + 1) := by simp; omega
  rw [itoa_nat, ← dec_digF 16 k hk]
  exact rdigits_fuel 16 k w hk (by omega)

/-- Is a byte a digit, a letter or -? -/
def digB (n : Int) : Bool := decide (48 ≤ n) && decide (n ≤ 57)
def letB (n : Int) : Bool := (decide (97 ≤ n) && decide (n ≤ 122)) || (decide (65 ≤ n) && decide (n ≤ 90)) || (n == 45)
theorem isDig_eq (c : UInt8) : Tx.isDig c = digB (c.toNat : Int) := rfl
theorem isLet_eq (c : UInt8) : isLet c = letB (c.toNat : Int) := by
  unfold isLet letB
  congr 1

set_option maxHeartbeats 400000 in
theorem rdigit_any (n : Int) (w : World) :
    Calls Tryz.prog 20 #[.int .u8 n] w fun e w' => e = .returned (.bool (digB n)) ∧ w' = w := by
  by_cases h1 : 48 ≤ n
  · go_enter Tryz.func20, Tryz.ntmps20
    go_wp2
    go_ret
    exact ⟨by simp [digB, h1], rfl⟩
  · have hd : decide (48 ≤ n) = false := by simpa using h1
    go_enter Tryz.func20, Tryz.ntmps20
    go_wp2
    go_ret
    exact ⟨by simp [digB, hd], rfl⟩

set_option maxHeartbeats 400000 in
theorem rletter_any (n : Int) (w : World) :
    Calls Tryz.prog 77 #[.int .u8 n] w fun e w' => e = .returned (.bool (letB n)) ∧ w' = w := by
  have key : ∀ (p q r s : Bool), decide (97 ≤ n) = p → decide (n ≤ 122) = q → decide (65 ≤ n) = r → decide (n ≤ 90) = s → Calls Tryz.prog 77 #[.int .u8 n] w fun e w' => e = .returned (.bool (letB n)) ∧ w' = w := by
    intro p q r s h1 h2 h3 h4
    cases p <;> cases q <;> cases r <;> cases s <;>
    ( go_enter Tryz.func77, Tryz.ntmps77
      go_wp2
      go_ret
      exact ⟨by simp [letB, h1, h2, h3, h4], rfl⟩)
  exact key _ _ _ _ rfl rfl rfl rfl

set_option maxHeartbeats 400000 in
theorem rsign_any (a b : Int) (w : World) :
    Calls Tryz.prog 126 #[.int .i64 a, .int .i64 b] w fun e w' => e = .returned (.int .i64 (Lib.compareInt a b)) ∧ w' = w := by
  go_enter Tryz.func126, Tryz.ntmps126
  go_wp2
  · go_ret
    exact ⟨by simp [Lib.compareInt, *], rfl⟩
  · go_ret
    exact ⟨by simp [Lib.compareInt, *], rfl⟩
  · go_ret
    exact ⟨ret_int (by unfold Lib.compareInt; rw [if_neg (by omega), if_neg (by omega)]), rfl⟩

set_option maxHeartbeats 400000 in
theorem within_any (a n : Int) (w : World) (h1 : 1 ≤ n) (h2 : n ≤ 4611686018427387904) (h3 : -9223372036854775808 ≤ a) (h4 : a ≤ 9223372036854775807) :
    Calls Tryz.prog 98 #[.int .i64 a, .int .i64 n] w fun e w' => e = .returned (.int .i64 (a % n)) ∧ w' = w := by
  obtain ⟨hb1, hb2⟩ := Tx.tmod_bd a n h1
  go_enter Tryz.func98, Tryz.ntmps98
  go_wp2
  · go_ret
    exact ⟨ret_int (Tx.tmod_dn a n h1 (by assumption)), rfl⟩
  · go_ret
    exact ⟨ret_int (Tx.tmod_up a n h1 (by assumption)), rfl⟩

/-- A number from 0 to n - 1. -/
theorem within_nat (a n : Int) (w : World) (h1 : 1 ≤ n) (h2 : n ≤ 4611686018427387904) (h3 : -9223372036854775808 ≤ a) (h4 : a ≤ 9223372036854775807) :
    Calls Tryz.prog 98 #[.int .i64 a, .int .i64 n] w fun e w' => ∃ k : Nat, e = .returned (.int .i64 k) ∧ (k : Int) < n ∧ Hid ((k : Int) = a % n) ∧ w' = w := by
  refine (within_any a n w h1 h2 h3 h4).mono ?_
  rintro e w' ⟨rfl, rfl⟩
  have b1 := Int.emod_nonneg a (b := n) (by omega)
  have b2 := Int.emod_lt_of_pos a (b := n) (by omega)
  exact ⟨(a % n).toNat, by rw [Int.toNat_of_nonneg b1], by omega, Int.toNat_of_nonneg b1, rfl⟩

end Go.Proofs.YthihnpjbdjmbhaaGreatDoor

namespace Go.Proofs.YthihnpjbdjmbhaaGreatDoor
set_option linter.unusedVariables false
open Go.RowKit Go.Vr

theorem all_take_succ (p : UInt8 → Bool) (s : ByteArray) (k : Nat) (h : k < s.size) : (s.data.toList.take (k + 1)).all p = ((s.data.toList.take k).all p && p s[k]) := by rw [Tx.take_snoc s k h]; simp [List.all_append]
theorem all_not (p : UInt8 → Bool) (s : ByteArray) (k : Nat) (h : k < s.size) (hb : p s[k] = false) : s.data.toList.all p = false := by
  have hm : s[k] ∈ s.data.toList := by
    have : s[k] = s.data.toList[k]'(by simpa using h) := rfl
    rw [this]; exact List.getElem_mem _
  rw [List.all_eq_false]
  exact ⟨_, hm, by simp [hb]⟩
theorem isEmpty_eq (s : ByteArray) : s.data.toList.isEmpty = decide (s.size = 0) := by
  have := Tx.len_eq s
  cases e : s.data.toList with
  | nil => rw [e] at this; simp at this; simp [← this]
  | cons c l => rw [e] at this; simp only [List.length_cons] at this; rw [decide_eq_false (by omega)]; rfl
theorem digs_eq (s : ByteArray) : digs s.data.toList = (decide (s.size ≠ 0) && s.data.toList.all Tx.isDig) := by
  unfold digs
  rw [isEmpty_eq]; simp
theorem toList_data (s : ByteArray) : s.toList = s.data.toList := by obtain ⟨⟨l⟩⟩ := s; simp
theorem empty_eq (s : ByteArray) : s.toList.isEmpty = decide (s.size = 0) := by rw [toList_data, isEmpty_eq]

set_option maxHeartbeats 400000 in
theorem rdigs_any (s : ByteArray) (w : World) (hs : s.size ≤ maxLen) :
    Calls Tryz.prog 76 #[.string s] w fun e w' => e = .returned (.bool (digs s.data.toList)) ∧ w' = w := by
  unfold maxLen at hs
  go_enter Tryz.func76, Tryz.ntmps76
  go_wp2
  go_loop [3] (fun i => ∃ k : Nat, k ≤ s.size ∧ i = .int .i64 k ∧ Hid ((s.data.toList.take k).all Tx.isDig = true)) (fun i => s.size - (RowKit.intOf i).toNat)
  case atStart => exact ⟨0, Nat.zero_le _, rfl, rfl⟩
  case round =>
    obtain ⟨k, hk, rfl, hp⟩ := hrel
    by_cases hlt : k < s.size
    · cases hd : digB ((s[k]).toNat : Int) with
      | true =>
        have HT : Hid ((s.data.toList.take (k + 1)).all Tx.isDig = true) := by
          show List.all _ _ = true
          rw [all_take_succ _ s k hlt, hp.out, isDig_eq, hd]; rfl
        go_wp2_with (go_at_call 20; refine (rdigit_any _ _).mono ?_; rw [hd]; rintro e w' ⟨rfl, rfl⟩)
        go_round
        case rel => exact ⟨k + 1, by omega, by go_num, HT⟩
        case measure => simp [RowKit.intOf]; omega
      | false =>
        have HF : Hid (s.data.toList.all Tx.isDig = false) := all_not _ s k hlt hd
        go_wp2_with (go_at_call 20; refine (rdigit_any _ _).mono ?_; rw [hd]; rintro e w' ⟨rfl, rfl⟩)
        go_ret
        exact ⟨ret_bool (by rw [digs_eq, HF.out]; simp), rfl⟩
    · have HT : Hid (s.data.toList.all Tx.isDig = true) := by rw [← Tx.take_all s k (by omega)]; exact hp
      go_wp2
      go_ret
      exact ⟨ret_bool (by rw [digs_eq, HT.out, Bool.and_true, empty_eq]; simp), rfl⟩

end Go.Proofs.YthihnpjbdjmbhaaGreatDoor
