/-
  Plain mathematics of pseudo versions, and of numbers in order.
  Plain mathematics of a version's text, read part by part.
  Plain mathematics of the last word.
-/
import Derived.Test.YtnmmhihfnphjeaaGreatDoorG11
import Derived.Lib.LastIndexByte

namespace Go.Vr
set_option linter.unusedVariables false
open Go.Lib Go.Tx

theorem parse_parts (v : V) (ha : 0 ≤ v.a ∧ v.a < 1000000000) (hb : 0 ≤ v.b ∧ v.b < 1000000000) (hc : 0 ≤ v.c ∧ v.c < 1000000000) : parse (txt v) = if v.ok = true then some v else none := by
  have dot : ∀ x : Bs, ∀ c t, (46 : UInt8) :: x = c :: t → isDig c = false := by
    intro x c t e; injection e with e; rw [← e]; rfl
  have e1 := rstep_of 118 v.a (46 :: (itoa v.b ++ 46 :: (itoa v.c ++ tail v.p.data.toList))) ha.1 ha.2 (dot _)
  have e2 := rstep_of 46 v.b (46 :: (itoa v.c ++ tail v.p.data.toList)) hb.1 hb.2 (dot _)
  have e3 := rstep_of 46 v.c (tail v.p.data.toList) hc.1 hc.2 (tail_head _)
  have e4 := rtail_of v.p.data.toList
  have e5 : (⟨v.a, v.b, v.c, str v.p.data.toList⟩ : V) = v := by rw [str_of]
  unfold parse
  rw [show txt v = 118 :: (itoa v.a ++ 46 :: (itoa v.b ++ 46 :: (itoa v.c ++ tail v.p.data.toList))) from rfl, e1]
  simp only [e2, e3, e4, e5]

/-! Numbers in order -/

theorem numVal_cons (c : UInt8) (l : Bs) : numVal (c :: l) = ((c.toNat : Int) - 48) * 10 ^ l.length + numVal l := by
  have key : ∀ (l : Bs) (a : Int), l.foldl (fun (n : Int) c => n * 10 + ((c.toNat : Int) - 48)) a = a * 10 ^ l.length + numVal l := by
    intro l
    induction l with
    | nil => intro a; simp [numVal]
    | cons d l ih =>
      intro a
      have e2 : numVal (d :: l) = (0 * 10 + ((d.toNat : Int) - 48)) * 10 ^ l.length + numVal l := ih _
      rw [List.foldl_cons, ih, e2, List.length_cons, Int.pow_succ, Int.add_mul, Int.add_mul]
      rw [show a * 10 * 10 ^ l.length = a * (10 ^ l.length * 10) by rw [Int.mul_assoc, Int.mul_comm 10 (10 ^ l.length)]]
      simp [Int.add_assoc]
  have := key l (0 * 10 + ((c.toNat : Int) - 48))
  show l.foldl _ (0 * 10 + ((c.toNat : Int) - 48)) = _
  rw [this]; simp

theorem cmp_digits : ∀ (l k : Bs), l.length = k.length → l.all isDig = true → k.all isDig = true → compareBytes l k = compareInt (numVal l) (numVal k)
  | [], [], _, _, _ => rfl
  | a :: l, b :: k, hl, h1, h2 => by
    simp only [List.length_cons, Nat.add_right_cancel_iff] at hl
    simp only [List.all_cons, Bool.and_eq_true] at h1 h2
    have ih := cmp_digits l k hl h1.2 h2.2
    have l0 := numVal_nonneg l h1.2
    have l1 := numVal_lt l h1.2
    have k0 := numVal_nonneg k h2.2
    have k1 := numVal_lt k h2.2
    have ca := h1.1
    have cb := h2.1
    simp [isDig] at ca cb
    rw [numVal_cons a l, numVal_cons b k]
    rw [hl] at l1 ⊢
    generalize hP : (10 : Int) ^ k.length = P at *
    have hP0 : 0 < P := by omega
    unfold compareBytes
    have e1 : a < b ↔ (a.toNat : Int) < b.toNat := by rw [UInt8.lt_iff_toNat_lt]; omega
    have e2 : b < a ↔ (b.toNat : Int) < a.toNat := by rw [UInt8.lt_iff_toNat_lt]; omega
    by_cases g1 : a < b
    · rw [if_pos g1]
      have := e1.1 g1
      have hm : ((a.toNat : Int) - 48 + 1) * P ≤ ((b.toNat : Int) - 48) * P := Int.mul_le_mul_of_nonneg_right (by omega) (by omega)
      rw [Int.add_mul] at hm
      unfold compareInt
      rw [if_pos (by omega)]
    · rw [if_neg g1]
      by_cases g2 : b < a
      · rw [if_pos g2]
        have := e2.1 g2
        have hm : ((b.toNat : Int) - 48 + 1) * P ≤ ((a.toNat : Int) - 48) * P := Int.mul_le_mul_of_nonneg_right (by omega) (by omega)
        rw [Int.add_mul] at hm
        unfold compareInt
        rw [if_neg (by omega), if_pos (by omega)]
      · rw [if_neg g2, ih]
        have : a.toNat = b.toNat := by
          have n1 : ¬ (a.toNat : Int) < b.toNat := fun k => g1 (e1.2 k)
          have n2 : ¬ (b.toNat : Int) < a.toNat := fun k => g2 (e2.2 k)
          omega
        rw [this]
        generalize ((b.toNat : Int) - 48) * P = Q
        unfold compareInt
        repeat' split
        all_goals omega

theorem nDigits_low (u : Nat) : ∀ k, nDigits u = k + 2 → 10 ^ (k + 1) ≤ u := by
  intro k
  induction k generalizing u with
  | zero =>
    intro h
    by_cases h10 : u < 10
    · rw [nDigits_small h10] at h; omega
    · simp; omega
  | succ k ih =>
    intro h
    by_cases h10 : u < 10
    · rw [nDigits_small h10] at h; omega
    · rw [nDigits_big h10] at h
      have := ih (u / 10) (by omega)
      rw [Nat.pow_succ]; omega
theorem nDigits_mono (x y : Nat) (h : nDigits x < nDigits y) : x < y := by
  have h1 := lt_pow_nDigits x
  have h2 := nDigits_pos x
  have h3 := nDigits_low y (nDigits y - 2) (by omega)
  have h4 : (10 : Nat) ^ nDigits x ≤ 10 ^ (nDigits y - 2 + 1) := Nat.pow_le_pow_right (by omega) (by omega)
  omega
theorem dec_digs (n : Nat) : digs (decDigits n) = true := by
  unfold digs
  rw [dec_dig]
  cases e : decDigits n with
  | nil => exact absurd e (dec_ne n)
  | cons c l => rfl
/-- Words of digits are in the order of their numbers. -/
theorem dec_cmp (x y : Nat) : cmpW (decDigits x) (decDigits y) = compareInt x y := by
  unfold cmpW kind klen
  rw [if_pos (dec_digs x), if_pos (dec_digs y), if_pos (dec_digs x), if_pos (dec_digs y), ord_int.refl, seq_zero, decDigits_length, decDigits_length]
  by_cases h1 : nDigits x < nDigits y
  · have := nDigits_mono x y h1
    have e1 : compareInt (nDigits x : Int) (nDigits y : Int) = -1 := if_pos (by omega)
    have e2 : compareInt (x : Int) (y : Int) = -1 := if_pos (by omega)
    rw [e1, e2]; rfl
  · by_cases h2 : nDigits y < nDigits x
    · have := nDigits_mono y x h2
      have e1 : compareInt (nDigits x : Int) (nDigits y : Int) = 1 := by unfold compareInt; rw [if_neg (by omega), if_pos (by omega)]
      have e2 : compareInt (x : Int) (y : Int) = 1 := by unfold compareInt; rw [if_neg (by omega), if_pos (by omega)]
      rw [e1, e2]; rfl
    · have e1 : compareInt (nDigits x : Int) (nDigits y : Int) = 0 := by unfold compareInt; rw [if_neg (by omega), if_neg (by omega)]
      rw [e1, seq_zero, cmp_digits _ _ (by rw [decDigits_length, decDigits_length]; omega) (dec_dig x) (dec_dig y), dec_val, dec_val]

/-! Pseudo versions -/

def isHex (c : UInt8) : Bool := isDig c || (decide (97 ≤ (c.toNat : Int)) && decide ((c.toNat : Int) ≤ 102))
/-- Is it a revision's id? -/
def idOk (s : Bs) : Bool := decide (12 ≤ s.length) && decide (s.length ≤ 40) && s.all isHex
/-- A time's 14 digits. -/
def pad (t : Int) : Bs := List.replicate (14 - (itoa t).length) 48 ++ itoa t
def stamp (t : Int) (id : Bs) : Bs := pad t ++ 45 :: id.take 12
def timeOk (t : Int) : Bool := decide (0 ≤ t) && decide (t ≤ 99999999999999)
/-- What stands ahead of the stamp. -/
def lead (has : Bool) (p : Bs) : Bs := if has = true then (if p = [] then [48, 46] else p ++ [46, 48, 46]) else []
def pver (has : Bool) (v : V) (t : Int) (id : Bs) : V :=
  if has = true then (if v.p.data.toList = [] then ⟨v.a, v.b, v.c + 1, str (lead true v.p.data.toList ++ stamp t id)⟩ else ⟨v.a, v.b, v.c, str (lead true v.p.data.toList ++ stamp t id)⟩)
  else ⟨0, 0, 0, str (lead false v.p.data.toList ++ stamp t id)⟩
def pseudo (has : Bool) (v : V) (t : Int) (id : Bs) : Option V :=
  if timeOk t = true ∧ idOk id = true then (if (pver has v t id).ok = true then some (pver has v t id) else none) else none

/-- What the last word says. -/
def isStamp (w : Bs) : Bool := decide (w.length = 27) && decide (w[14]? = some 45) && (w.take 14).all isDig && (w.drop 15).all isHex
def lastW (p : Bs) : Bs := (words p).getLast (words_ne p)
def behind (p : Bs) : Option (Int × Bs) := if isStamp (lastW p) = true then some (numVal ((lastW p).take 14), (lastW p).drop 15) else none

theorem nDigits_le (u : Nat) (k : Nat) (h : u < 10 ^ (k + 1)) : nDigits u ≤ k + 1 := by
  by_cases h2 : nDigits u ≤ k + 1
  · exact h2
  · exfalso
    have := nDigits_low u (nDigits u - 2) (by omega)
    have h4 : (10 : Nat) ^ (k + 1) ≤ 10 ^ (nDigits u - 2 + 1) := Nat.pow_le_pow_right (by omega) (by omega)
    omega
theorem time_len (t : Int) (h : timeOk t = true) : (itoa t).length ≤ 14 ∧ 1 ≤ (itoa t).length ∧ (itoa t).all isDig = true ∧ numVal (itoa t) = t := by
  simp only [timeOk, Bool.and_eq_true, decide_eq_true_eq] at h
  obtain ⟨k, rfl⟩ := Int.eq_ofNat_of_zero_le h.1
  rw [itoa_nat, decDigits_length]
  exact ⟨nDigits_le k 13 (by simp; omega), nDigits_pos k, dec_dig k, dec_val k⟩
theorem time_iff (t : Int) (h0 : 0 ≤ t) : (itoa t).length ≤ 14 ↔ t ≤ 99999999999999 := by
  obtain ⟨k, rfl⟩ := Int.eq_ofNat_of_zero_le h0
  rw [itoa_nat, decDigits_length]
  constructor
  · intro h
    have h1 := lt_pow_nDigits k
    have h4 : (10 : Nat) ^ nDigits k ≤ 10 ^ 14 := Nat.pow_le_pow_right (by omega) h
    have : (10 : Nat) ^ 14 = 100000000000000 := by decide
    omega
  · intro h
    exact nDigits_le k 13 (by simp; omega)
theorem zeros_val (n : Nat) (l : Bs) : numVal (List.replicate n 48 ++ l) = numVal l := by
  induction n with
  | zero => rfl
  | succ n ih => rw [List.replicate_succ, List.cons_append, numVal_cons, ih]; simp
theorem pad_says (t : Int) (h : timeOk t = true) : (pad t).length = 14 ∧ (pad t).all isDig = true ∧ numVal (pad t) = t := by
  obtain ⟨h1, h2, h3, h4⟩ := time_len t h
  unfold pad
  refine ⟨by rw [List.length_append, List.length_replicate]; omega, ?_, by rw [zeros_val, h4]⟩
  rw [List.all_append, h3, Bool.and_true, List.all_eq_true]
  intro c hc
  rw [List.mem_replicate] at hc
  rw [hc.2]; rfl
theorem hex_wd (c : UInt8) (h : isHex c = true) : isWd c = true := by
  unfold isHex at h; unfold isWd isLet
  cases hd : isDig c with
  | true => rfl
  | false =>
    rw [hd] at h
    simp at h ⊢
    omega
theorem dig_wd (c : UInt8) (h : isDig c = true) : isWd c = true := by unfold isWd; rw [h]; rfl
theorem all_imp {p q : UInt8 → Bool} (h : ∀ c, p c = true → q c = true) (l : Bs) (hl : l.all p = true) : l.all q = true := by
  rw [List.all_eq_true] at *
  exact fun c hc => h c (hl c hc)
theorem all_take {p : UInt8 → Bool} (n : Nat) (l : Bs) (hl : l.all p = true) : (l.take n).all p = true := by
  rw [List.all_eq_true] at *
  exact fun c hc => hl c (List.mem_of_mem_take hc)
theorem stamp_says (t : Int) (id : Bs) (h : timeOk t = true) (hi : idOk id = true) :
    (stamp t id).length = 27 ∧ (stamp t id).all isWd = true ∧ digs (stamp t id) = false ∧ wordOk (stamp t id) = true ∧ isStamp (stamp t id) = true ∧ (stamp t id).take 14 = pad t ∧ (stamp t id).drop 15 = id.take 12 := by
  obtain ⟨p1, p2, p3⟩ := pad_says t h
  simp only [idOk, Bool.and_eq_true, decide_eq_true_eq] at hi
  have hl : (stamp t id).length = 27 := by unfold stamp; rw [List.length_append, List.length_cons, List.length_take]; omega
  have hw : (stamp t id).all isWd = true := by
    unfold stamp
    rw [List.all_append, List.all_cons, all_imp dig_wd _ p2, all_imp hex_wd _ (all_take 12 id hi.2)]; rfl
  have hd : digs (stamp t id) = false := by
    unfold digs stamp
    rw [List.all_append, List.all_cons]
    have : isDig 45 = false := rfl
    rw [this]; simp
  have ht : (stamp t id).take 14 = pad t := by unfold stamp; rw [← p1]; simp
  have hr : (stamp t id).drop 15 = id.take 12 := by
    unfold stamp
    rw [show 15 = (pad t).length + 1 by omega, List.drop_append]; simp
  have h14 : (stamp t id)[14]? = some 45 := by
    unfold stamp
    rw [List.getElem?_append_right (by omega), p1]; rfl
  refine ⟨hl, hw, hd, ?_, ?_, ht, hr⟩
  · unfold wordOk
    rw [hw, hd]
    cases e : stamp t id with
    | nil => rw [e] at hl; simp at hl
    | cons c l => rfl
  · unfold isStamp
    rw [hl, h14, ht, hr, p2, all_take 12 id hi.2]; rfl

theorem nodot_wd (c : UInt8) (h : isWd c = true) : c ≠ 46 := by rintro rfl; revert h; decide
theorem words_stamp (has : Bool) (p : Bs) (s : Bs) (hs : s.all isWd = true) : words (lead has p ++ s) = (if has = true then (if p = [] then [[48]] else words p ++ [[48]]) else []) ++ [s] := by
  have h1 : words s = [s] := words_one s (fun c hc => nodot_wd c (by rw [List.all_eq_true] at hs; exact hs c hc))
  unfold lead
  cases has with
  | false => simpa using h1
  | true =>
    simp only [if_true]
    by_cases e : p = []
    · rw [if_pos e, if_pos e]
      show words ([48] ++ 46 :: s) = _
      rw [words_app, h1]; rfl
    · rw [if_neg e, if_neg e]
      have : (p ++ [46, 48, 46]) ++ s = p ++ 46 :: ([48] ++ 46 :: s) := by simp
      rw [this, words_app, words_app, h1]
      show words p ++ ([[48]] ++ [s]) = _
      rw [List.append_assoc]
theorem lead_ne (has : Bool) (p s : Bs) (hs : s ≠ []) : lead has p ++ s ≠ [] := by
  intro e
  have := List.append_eq_nil_iff.1 e
  exact hs this.2
/-- Whether it may be hangs on the version alone. -/
theorem pver_ok (has : Bool) (v : V) (t u : Int) (id jd : Bs) (h : timeOk t = true) (hu : timeOk u = true) (hi : idOk id = true) (hj : idOk jd = true) : (pver has v t id).ok = (pver has v u jd).ok := by
  obtain ⟨s1, s2, s3, s4, s5, s6, s7⟩ := stamp_says t id h hi
  obtain ⟨r1, r2, r3, r4, r5, r6, r7⟩ := stamp_says u jd hu hj
  have key : preOk (lead has v.p.data.toList ++ stamp t id) = preOk (lead has v.p.data.toList ++ stamp u jd) := by
    have n1 : stamp t id ≠ [] := fun e => by rw [e] at s1; simp at s1
    have n2 : stamp u jd ≠ [] := fun e => by rw [e] at r1; simp at r1
    unfold preOk
    rw [words_stamp _ _ _ s2, words_stamp _ _ _ r2, List.length_append, List.length_append, s1, r1, List.all_append, List.all_append]
    have e1 : (lead has v.p.data.toList ++ stamp t id).isEmpty = false := by
      cases e : lead has v.p.data.toList ++ stamp t id with
      | nil => exact absurd e (lead_ne _ _ _ n1)
      | cons c l => rfl
    have e2 : (lead has v.p.data.toList ++ stamp u jd).isEmpty = false := by
      cases e : lead has v.p.data.toList ++ stamp u jd with
      | nil => exact absurd e (lead_ne _ _ _ n2)
      | cons c l => rfl
    rw [e1, e2]
    simp [s4, r4]
  unfold pver V.ok verOk
  cases has with
  | false => simp only [Bool.false_eq_true, if_false, str_list, key]
  | true =>
    simp only [if_true]
    split
    · simp only [str_list, key]
    · simp only [str_list, key]

theorem bytes_app : ∀ (l k r s : Bs), l.length = k.length → compareBytes (l ++ r) (k ++ s) = seq (compareBytes l k) (compareBytes r s)
  | [], [], _, _, _ => rfl
  | a :: l, b :: k, r, s, h => by
    have ih := bytes_app l k r s (by simpa using h)
    rw [List.cons_append, List.cons_append]
    have e : ∀ x y : Bs, compareBytes (a :: x) (b :: y) = if a < b then -1 else if b < a then 1 else compareBytes x y := fun _ _ => rfl
    rw [e, e]
    split
    · rfl
    · split
      · rfl
      · exact ih
theorem cmp_stamp (t u : Int) (id jd : Bs) (h : timeOk t = true) (hu : timeOk u = true) (hi : idOk id = true) (hj : idOk jd = true) :
    cmpW (stamp t id) (stamp u jd) = seq (compareInt t u) (compareBytes (id.take 12) (jd.take 12)) := by
  obtain ⟨s1, s2, s3, s4, s5, s6, s7⟩ := stamp_says t id h hi
  obtain ⟨r1, r2, r3, r4, r5, r6, r7⟩ := stamp_says u jd hu hj
  obtain ⟨p1, p2, p3⟩ := pad_says t h
  obtain ⟨q1, q2, q3⟩ := pad_says u hu
  unfold cmpW kind klen
  rw [s3, r3]
  simp only [Bool.false_eq_true, if_false, ord_int.refl, seq_zero]
  unfold stamp
  rw [bytes_app _ _ _ _ (by omega), cmp_digits _ _ (by omega) p2 q2, p3, q3]
  congr 1
theorem cmp_pver (has : Bool) (v : V) (t u : Int) (id jd : Bs) (h : timeOk t = true) (hu : timeOk u = true) (hi : idOk id = true) (hj : idOk jd = true) :
    cmpV (pver has v t id) (pver has v u jd) = seq (compareInt t u) (compareBytes (id.take 12) (jd.take 12)) := by
  obtain ⟨s1, s2, s3, s4, s5, s6, s7⟩ := stamp_says t id h hi
  obtain ⟨r1, r2, r3, r4, r5, r6, r7⟩ := stamp_says u jd hu hj
  have n1 : stamp t id ≠ [] := fun e => by rw [e] at s1; simp at s1
  have n2 : stamp u jd ≠ [] := fun e => by rw [e] at r1; simp at r1
  have key : cmpP (lead has v.p.data.toList ++ stamp t id) (lead has v.p.data.toList ++ stamp u jd) = seq (compareInt t u) (compareBytes (id.take 12) (jd.take 12)) := by
    unfold cmpP none1
    rw [if_neg (lead_ne _ _ _ n1), if_neg (lead_ne _ _ _ n2), ord_int.refl, seq_zero, words_stamp _ _ _ s2, words_stamp _ _ _ r2, lex_same ord_word]
    show seq (cmpW (stamp t id) (stamp u jd)) 0 = _
    rw [seq_right, cmp_stamp t u id jd h hu hi hj]
  unfold pver cmpV
  cases has with
  | false => simp only [Bool.false_eq_true, if_false, str_list, ord_int.refl, seq_zero, key]
  | true =>
    simp only [if_true]
    split
    · simp only [str_list, ord_int.refl, seq_zero, key]
    · simp only [str_list, ord_int.refl, seq_zero, key]
/-- More than what it is behind. -/
theorem pver_more (v : V) (t : Int) (id : Bs) (h : timeOk t = true) (hi : idOk id = true) : cmpV (pver true v t id) v = 1 := by
  obtain ⟨s1, s2, s3, s4, s5, s6, s7⟩ := stamp_says t id h hi
  have n1 : stamp t id ≠ [] := fun e => by rw [e] at s1; simp at s1
  have ha := ord_ver.anti v (pver true v t id)
  unfold pver at ha ⊢
  simp only [if_true] at ha ⊢
  split
  · have : compareInt (v.c + 1) v.c = 1 := by unfold compareInt; rw [if_neg (by omega), if_pos (by omega)]
    unfold cmpV
    simp only [ord_int.refl, seq_zero, this]; rfl
  · rename_i e
    rw [if_neg e] at ha
    rw [ha]
    have hw : words (lead true v.p.data.toList ++ stamp t id) = words v.p.data.toList ++ [48] :: [stamp t id] := by
      rw [words_stamp _ _ _ s2]; simp [e]
    have hn : none1 (lead true v.p.data.toList ++ stamp t id) = 0 := if_neg (lead_ne true v.p.data.toList _ n1)
    have hm : none1 v.p.data.toList = 0 := if_neg e
    unfold cmpV cmpP
    simp only [str_list, ord_int.refl, seq_zero, hn, hm, hw, lex_more ord_word]; rfl
/-- Less than the next one. -/
theorem pver_less (has : Bool) (v : V) (t : Int) (id : Bs) (h : timeOk t = true) (hi : idOk id = true) (h0 : has = false → v = V.zero) :
    cmpV (pver has v t id) ⟨v.a, v.b, if has = true ∧ v.p.data.toList ≠ [] then v.c else v.c + 1, ByteArray.empty⟩ = -1 := by
  obtain ⟨s1, s2, s3, s4, s5, s6, s7⟩ := stamp_says t id h hi
  have n1 : stamp t id ≠ [] := fun e => by rw [e] at s1; simp at s1
  unfold pver
  cases has with
  | false =>
    rw [h0 rfl]
    rfl
  | true =>
    simp only [if_true, true_and]
    have key : ∀ c, cmpV ⟨v.a, v.b, c, str (lead true v.p.data.toList ++ stamp t id)⟩ ⟨v.a, v.b, c, ByteArray.empty⟩ = -1 := by
      intro c
      have hn : none1 (lead true v.p.data.toList ++ stamp t id) = 0 := if_neg (lead_ne true v.p.data.toList _ n1)
      unfold cmpV cmpP
      simp only [str_list, ord_int.refl, seq_zero, hn]
      rfl
    split
    · rename_i e
      rw [if_neg (by simp [e])]
      exact key _
    · exact key _
theorem behind_pver (has : Bool) (v : V) (t : Int) (id : Bs) (h : timeOk t = true) (hi : idOk id = true) : behind (pver has v t id).p.data.toList = some (t, id.take 12) := by
  obtain ⟨s1, s2, s3, s4, s5, s6, s7⟩ := stamp_says t id h hi
  have hp : (pver has v t id).p.data.toList = lead has v.p.data.toList ++ stamp t id := by
    unfold pver
    cases has with
    | false => rfl
    | true => simp only [if_true]; split <;> rfl
  have hl : lastW (pver has v t id).p.data.toList = stamp t id := by
    unfold lastW
    have := words_stamp has v.p.data.toList (stamp t id) s2
    simp only [hp, this, List.getLast_append, List.getLast_singleton]
    simp
  unfold behind
  rw [hl, if_pos s5, s6, s7, (pad_says t h).2.2]

end Go.Vr

namespace Go.Vr
set_option linter.unusedVariables false
open Go.Lib Go.Tx

/-- Behind the three numbers. -/
def fin (a b c : Int) (r : Bs) : Option V := match rtail r with
  | none => none
  | some p => if V.ok ⟨a, b, c, str p⟩ = true then some ⟨a, b, c, str p⟩ else none
/-- With so many numbers to come. -/
def go3 (i : Nat) (a b c : Int) (r : Bs) : Option V :=
  match i with
  | 0 => match rstep 118 r with
    | none => none
    | some (a, s1) => match rstep 46 s1 with
      | none => none
      | some (b, s2) => match rstep 46 s2 with
        | none => none
        | some (c, s3) => fin a b c s3
  | 1 => match rstep 46 r with
      | none => none
      | some (b, s2) => match rstep 46 s2 with
        | none => none
        | some (c, s3) => fin a b c s3
  | 2 => match rstep 46 r with
        | none => none
        | some (c, s3) => fin a b c s3
  | _ => fin a b c r
theorem parse_go (s : Bs) : parse s = go3 0 0 0 0 s := rfl

theorem drop_at (s : ByteArray) (t : Nat) (h : t < s.size) : s.data.toList.drop t = s[t] :: s.data.toList.drop (t + 1) := by
  rw [List.drop_eq_getElem_cons (by simpa using h)]; rfl
theorem drop_end (s : ByteArray) (t : Nat) (h : s.size ≤ t) : s.data.toList.drop t = [] := List.drop_of_length_le (by simpa using h)

theorem rstep_end (d : UInt8) (s : ByteArray) (t : Nat) (h : s.size ≤ t) : rstep d (s.data.toList.drop t) = none := by rw [drop_end s t h]; rfl
theorem rstep_ne (d : UInt8) (s : ByteArray) (t : Nat) (h : t < s.size) (hc : s[t] ≠ d) : rstep d (s.data.toList.drop t) = none := by
  rw [drop_at s t h]
  show (if _ then _ else _) = _
  rw [if_neg hc]
/-- Digits from f on, up to k. -/
def DigTo (s : ByteArray) (f k : Nat) : Prop := f ≤ k ∧ k ≤ s.size ∧ (s.extract f k).data.toList.all isDig = true
theorem ext_list (s : ByteArray) (f k : Nat) : (s.extract f k).data.toList = (s.data.toList.drop f).take (k - f) := extract_data s f k
theorem DigTo.start (s : ByteArray) (f : Nat) (h : f ≤ s.size) : DigTo s f f := ⟨Nat.le_refl _, h, by rw [ext_list]; simp⟩
theorem DigTo.next {s : ByteArray} {f k : Nat} (h : DigTo s f k) (hk : k < s.size) (hd : isDig s[k] = true) : DigTo s f (k + 1) := by
  refine ⟨by have := h.1; omega, hk, ?_⟩
  have hh := h.2.2
  have h1 := h.1
  rw [ext_list] at hh ⊢
  rw [show k + 1 - f = (k - f) + 1 by omega, List.take_add_one, List.all_append, hh]
  have e : (s.data.toList.drop f)[k - f]? = some s[k] := by
    rw [List.getElem?_drop, show f + (k - f) = k by omega]
    exact data_getElem? s k hk
  rw [e]; simp [hd]
theorem DigTo.done {s : ByteArray} {f k : Nat} (h : DigTo s f k) (hk : s.size ≤ k ∨ ∃ hk : k < s.size, isDig s[k] = false) : (s.data.toList.drop f).takeWhile isDig = (s.extract f k).data.toList ∧ (s.data.toList.drop f).dropWhile isDig = s.data.toList.drop k := by
  have h1 := h.1
  have e : s.data.toList.drop f = (s.extract f k).data.toList ++ s.data.toList.drop k := by
    rw [ext_list]
    have := List.take_append_drop (k - f) (s.data.toList.drop f)
    rw [List.drop_drop, show f + (k - f) = k by omega] at this
    exact this.symm
  rw [e]
  refine tw_app _ _ h.2.2 fun c t hc => ?_
  rcases hk with hk | ⟨hk, hd⟩
  · rw [drop_end s k hk] at hc; cases hc
  · rw [drop_at s k hk] at hc
    injection hc with hc
    rw [← hc]; exact hd
theorem rstep_eq (d : UInt8) (s : ByteArray) (t k : Nat) (h : t < s.size) (hc : s[t] = d) (hD : DigTo s (t + 1) k) (hk : s.size ≤ k ∨ ∃ hk : k < s.size, isDig s[k] = false) :
    rstep d (s.data.toList.drop t) = if okNum (s.extract (t + 1) k).data.toList = true then some (numVal (s.extract (t + 1) k).data.toList, s.data.toList.drop k) else none := by
  obtain ⟨e1, e2⟩ := hD.done hk
  rw [drop_at s t h]
  show (if _ then _ else _) = _
  rw [if_pos hc, e1, e2]
theorem okNum_bd (l : Bs) (h : okNum l = true) : 0 ≤ numVal l ∧ numVal l ≤ 999999999 ∧ numR l = numVal l := by
  have h0 := h
  unfold okNum at h
  simp only [Bool.and_eq_true, decide_eq_true_eq] at h
  have h1 := numVal_lt l h.2
  have h2 : (10 : Int) ^ l.length ≤ 10 ^ 9 := by
    have : ((10 ^ l.length : Nat) : Int) ≤ ((10 ^ 9 : Nat) : Int) := Int.ofNat_le.2 (Nat.pow_le_pow_right (by omega) h.1.1.2)
    rw [Int.natCast_pow, Int.natCast_pow] at this
    exact this
  have e : (10 : Int) ^ 9 = 1000000000 := by decide
  refine ⟨numVal_nonneg l h.2, by omega, ?_⟩
  rw [numR, if_pos h0]

theorem fin_end (x y z : Int) (s : ByteArray) (t : Nat) (h : s.size ≤ t) : fin x y z (s.data.toList.drop t) = if verOk x y z [] = true then some ⟨x, y, z, ⟨#[]⟩⟩ else none := by rw [drop_end s t h]; rfl
theorem fin_ne (x y z : Int) (s : ByteArray) (t : Nat) (h : t < s.size) (hc : s[t] ≠ 45) : fin x y z (s.data.toList.drop t) = none := by
  have : rtail (s.data.toList.drop t) = none := by
    rw [drop_at s t h]
    show (if _ then _ else _) = _
    rw [if_neg (fun e => hc e.1)]
  unfold fin; rw [this]
theorem fin_one (x y z : Int) (s : ByteArray) (t : Nat) (h : t + 1 = s.size) : fin x y z (s.data.toList.drop t) = none := by
  have : rtail (s.data.toList.drop t) = none := by
    rw [drop_at s t (by omega), drop_end s (t + 1) (by omega)]
    show (if _ then _ else _) = _
    rw [if_neg (fun e => e.2 rfl)]
  unfold fin; rw [this]
theorem fin_more (x y z : Int) (s : ByteArray) (t : Nat) (h : t + 1 < s.size) (hc : s[t] = 45) : fin x y z (s.data.toList.drop t) = if verOk x y z (s.extract (t + 1) s.size).data.toList = true then some ⟨x, y, z, s.extract (t + 1) s.size⟩ else none := by
  have hne : s.data.toList.drop (t + 1) ≠ [] := by rw [drop_at s (t + 1) h]; simp
  have : rtail (s.data.toList.drop t) = some (s.data.toList.drop (t + 1)) := by
    rw [drop_at s t (by omega)]
    show (if _ then _ else _) = _
    rw [if_pos ⟨hc, hne⟩]
  have e : str (s.data.toList.drop (t + 1)) = s.extract (t + 1) s.size := by rw [← extract_to_end, str_of]
  unfold fin
  rw [this]
  simp only [e]
  rfl

end Go.Vr

namespace Go.Vr
set_option linter.unusedVariables false
open Go.Lib Go.Tx

theorem lastW_app (a b : Bs) (h : ∀ c ∈ b, c ≠ 46) : lastW (a ++ 46 :: b) = b := by
  have e : words (a ++ 46 :: b) = words a ++ [b] := by rw [words_app, words_one b h]
  unfold lastW
  simp only [e, List.getLast_append, List.getLast_singleton]
  simp
theorem lastW_none (b : Bs) (h : ∀ c ∈ b, c ≠ 46) : lastW b = b := by
  have e := words_one b h
  unfold lastW
  simp only [e, List.getLast_singleton]

theorem get_data (s : ByteArray) (j : Nat) (h : j < s.data.toList.length) : s.data[j]! = s.data.toList[j] := by
  have h2 : j < s.data.size := by simpa using h
  rw [getElem!_pos s.data j h2]; rfl

theorem last_is (s : ByteArray) : -1 ≤ lastIndexByte s 46 ∧ lastIndexByte s 46 < s.size ∧ s.data.toList.drop (lastIndexByte s 46 + 1).toNat = lastW s.data.toList := by
  have hl := len_eq s
  rcases lastIdx_spec s 46 s.size with ⟨e, hn⟩ | ⟨i, hi, e, hc, hn⟩
  · have e' : lastIndexByte s 46 = -1 := e
    rw [e']
    refine ⟨by omega, by omega, ?_⟩
    show s.data.toList.drop 0 = _
    rw [List.drop_zero, lastW_none]
    intro c hc h
    subst h
    obtain ⟨j, hj, e2⟩ := List.getElem_of_mem hc
    refine hn j (by omega) ?_
    rw [get_data s j hj, e2]; rfl
  · have e' : lastIndexByte s 46 = i := e
    rw [e']
    refine ⟨by omega, by omega, ?_⟩
    rw [show ((i : Int) + 1).toNat = i + 1 by omega]
    have hil : i < s.data.toList.length := by omega
    have hci : s.data.toList[i] = 46 := by
      rw [get_data s i hil] at hc
      exact UInt8.toNat_inj.1 (by show _ = 46; omega)
    have hs : s.data.toList = s.data.toList.take i ++ 46 :: s.data.toList.drop (i + 1) := by
      have := List.take_append_drop i s.data.toList
      rw [List.drop_eq_getElem_cons hil, hci] at this
      exact this.symm
    conv => rhs; rw [hs]
    rw [lastW_app]
    intro c hc2 h
    subst h
    obtain ⟨j, hj, e2⟩ := List.getElem_of_mem hc2
    rw [List.length_drop] at hj
    rw [List.getElem_drop] at e2
    refine hn (i + 1 + j) (by omega) (by omega) ?_
    rw [get_data s (i + 1 + j) (by omega), e2]; rfl

/-- As the program asks whether a word is a stamp. -/
def cutOk (x y : Bs) : Bool := decide (x.length = 14) && x.all isDig && (decide (y.length = 12) && idOk y)
theorem cut_form (w x y : Bs) (b : Bool) (h : cut w [45] = (x, y, b)) : w = x ++ 45 :: y ∨ (y = [] ∧ w = x) := by
  unfold cut at h
  split at h
  · rename_i hi
    injection h with h1 h2
    injection h2 with h2 h3
    left
    rw [index_one] at hi h1 h2
    obtain ⟨i, hi2⟩ := Int.eq_ofNat_of_zero_le hi
    rw [hi2, Int.toNat_natCast] at h1 h2
    obtain ⟨g1, g2⟩ := indexByte_some hi2
    obtain ⟨hlt, e⟩ := List.getElem?_eq_some_iff.1 g1
    have := List.take_append_drop i w
    rw [List.drop_eq_getElem_cons hlt, e] at this
    rw [← this, h1]
    simp at h2
    rw [h2]
  · injection h with h1 h2
    injection h2 with h2 h3
    exact .inr ⟨h2.symm, h1⟩
theorem stamp_cut (w : Bs) : isStamp w = cutOk (cut w [45]).1 (cut w [45]).2.1 ∧ (isStamp w = true → (cut w [45]).1 = w.take 14 ∧ (cut w [45]).2.1 = w.drop 15) := by
  have key : isStamp w = true → (cut w [45]).1 = w.take 14 ∧ (cut w [45]).2.1 = w.drop 15 := by
    intro h
    simp only [isStamp, Bool.and_eq_true, decide_eq_true_eq] at h
    obtain ⟨⟨⟨h1, h2⟩, h3⟩, h4⟩ := h
    have hs : w = w.take 14 ++ 45 :: w.drop 15 := by
      obtain ⟨hlt, e⟩ := List.getElem?_eq_some_iff.1 h2
      have := List.take_append_drop 14 w
      rw [List.drop_eq_getElem_cons hlt, e] at this
      exact this.symm
    have hc := cut_at (w.take 14) (w.drop 15) 45 (dig_ne h3 45 rfl)
    rw [← hs] at hc
    rw [hc]; exact ⟨rfl, rfl⟩
  refine ⟨?_, key⟩
  cases h : isStamp w with
  | true =>
    obtain ⟨k1, k2⟩ := key h
    simp only [isStamp, Bool.and_eq_true, decide_eq_true_eq] at h
    obtain ⟨⟨⟨h1, h2⟩, h3⟩, h4⟩ := h
    rw [k1, k2]
    unfold cutOk idOk
    rw [h3, h4, List.length_take, List.length_drop, h1]; rfl
  | false =>
    cases h2 : cutOk (cut w [45]).1 (cut w [45]).2.1 with
    | false => rfl
    | true =>
      exfalso
      have hf := cut_form w (cut w [45]).1 (cut w [45]).2.1 (cut w [45]).2.2 rfl
      generalize (cut w [45]).1 = x at *
      generalize (cut w [45]).2.1 = y at *
      simp only [cutOk, idOk, Bool.and_eq_true, decide_eq_true_eq] at h2
      obtain ⟨⟨a1, a2⟩, a3, ⟨a4, a5⟩, a6⟩ := h2
      rcases hf with hf | ⟨hy, _⟩
      · have : isStamp w = true := by
          subst hf
          have e1 : (x ++ 45 :: y).take 14 = x := by rw [← a1]; simp
          have e2 : (x ++ 45 :: y).drop 15 = y := by rw [show 15 = x.length + 1 by omega, List.drop_append]; simp
          have e3 : (x ++ 45 :: y)[14]? = some 45 := by rw [List.getElem?_append_right (by omega), a1]; rfl
          have e4 : (x ++ 45 :: y).length = 27 := by rw [List.length_append, List.length_cons]; omega
          unfold isStamp
          rw [e1, e2, e3, e4, a2, a6]; rfl
        rw [this] at h; cases h
      · subst hy; simp at a3
theorem num_when (w : Bs) (h : isStamp w = true) : num (w.take 14) = numVal (w.take 14) := by
  simp only [isStamp, Bool.and_eq_true, decide_eq_true_eq] at h
  obtain ⟨⟨⟨h1, h2⟩, h3⟩, h4⟩ := h
  have hl : (w.take 14).length = 14 := by rw [List.length_take]; omega
  unfold num
  rw [num_digits (w.take 14) (fun e => by rw [e] at hl; simp at hl) (by omega) h3]

end Go.Vr
