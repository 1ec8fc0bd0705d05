/-
  Plain mathematics of a version's text: what is read of it is it, and nothing else is read.
  The library's contracts in this text's words (those that paths need), and what of the world they lean on.
  What a card's row hands to a walk: the variables as laid, and the world's shape: both at once.
-/
import Derived.Test.YtnmmhihfnphjeaaGreatDoorG09
import Derived.Test.YtnmmhihfnphjeaaGreatDoorG10
import Derived.Lib.ItoaNum
import Derived.Lib.AtoiAllCases
import Derived.Lib.AtoiTie
import Derived.Lib.IndexMore
import Derived.Lib.IndexBytes
import Derived.Lib.Split
import Derived.Lib.SplitLaws
import Derived.WalkSmall
import Derived.Lib.AtoiErrMem
import Derived.Lib.AppendIntMem
import Derived.Test.YtnmmhihfnphjeaaGreatDoorRows
import Derived.HandedShaped
import Derived.ProofKit
import Derived.LaidMore
import Derived.Lay
import Derived.MakeChecks
import Derived.Lib.LaidTab
import Derived.Stop.LaidErr
import Derived.Stop.Joined
import Derived.Shelf.Vars

namespace Go.Vr
set_option linter.unusedVariables false
open Go.Lib Go.Tx

/-! Digits -/

theorem dec_digF : ∀ (f n : Nat), n < 10 ^ (f + 1) → digF (f + 1) n = decDigits n
  | 0, n, h => by
    have h10 : n < 10 := by simpa using h
    rw [digF, if_pos h10, decDigits, dif_pos h10]; rfl
  | f + 1, n, h => by
    rw [digF, decDigits]
    by_cases h10 : n < 10
    · rw [if_pos h10, dif_pos h10]; rfl
    · rw [if_neg h10, dif_neg h10, dec_digF f (n / 10) (by rw [Nat.pow_succ] at h; omega)]; rfl

theorem dec_dig (n : Nat) : (decDigits n).all isDig = true := by
  rw [← dec_digF (nDigits n) n (Nat.lt_of_lt_of_le (lt_pow_nDigits n) (Nat.pow_le_pow_right (by omega) (by omega)))]
  exact digF_dig _ n
theorem dec_val (n : Nat) : numVal (decDigits n) = n := by
  have h : n < 10 ^ (nDigits n + 1) := Nat.lt_of_lt_of_le (lt_pow_nDigits n) (Nat.pow_le_pow_right (by omega) (by omega))
  rw [← dec_digF (nDigits n) n h]
  exact digF_val _ n h
theorem dec_ne (n : Nat) : decDigits n ≠ [] := fun e => by
  have := decDigits_length n
  have h1 := nDigits_pos n
  rw [e] at this; simp at this; omega

theorem dig_byte (c : UInt8) (h : isDig c = true) : UInt8.ofNat (48 + (c.toNat - 48)) = c := by
  simp [isDig] at h
  rw [show 48 + (c.toNat - 48) = c.toNat by omega]; simp
theorem numVal_nonneg (l : Bs) (h : l.all isDig = true) : 0 ≤ numVal l := by
  have := numVal_bd (str l) l.length (by rw [str_size]; omega)
  rw [str_list, List.take_length] at this
  exact (this h).1
theorem numVal_lt (l : Bs) (h : l.all isDig = true) : numVal l < 10 ^ l.length := by
  have := numVal_bd (str l) l.length (by rw [str_size]; omega)
  rw [str_list, List.take_length] at this
  exact (this h).2
/-- Digits without noughts ahead are their number's. -/
theorem dec_of_val (l : Bs) : ∀ n, l.length = n + 1 → l.all isDig = true → (n = 0 ∨ l.head? ≠ some 48) → decDigits (numVal l).toNat = l ∧ (l.head? ≠ some 48 → 1 ≤ numVal l) := by
  intro n
  induction n generalizing l with
  | zero =>
    intro hl hd _
    obtain ⟨c, rfl⟩ : ∃ c, l = [c] := by
      match l, hl with
      | [c], _ => exact ⟨c, rfl⟩
    simp only [List.all_cons, List.all_nil, Bool.and_true] at hd
    have hc := hd
    simp [isDig] at hc
    have hv : numVal [c] = (c.toNat : Int) - 48 := by simp [numVal]
    have ht : (numVal [c]).toNat = c.toNat - 48 := by rw [hv]; omega
    refine ⟨?_, fun h => ?_⟩
    · rw [ht, decDigits, dif_pos (by omega), dig_byte c hd]
    · have : c ≠ 48 := fun e => h (by rw [e]; rfl)
      have h2 : c.toNat ≠ 48 := fun e => this (UInt8.toNat_inj.1 (by rw [e]; rfl))
      rw [hv]; omega
  | succ n ih =>
    intro hl hd hh
    have hne : l ≠ [] := fun e => by subst e; simp at hl
    have hs := List.dropLast_concat_getLast hne
    generalize hx : l.dropLast = x at hs
    generalize l.getLast hne = c at hs
    have hxl : x.length = n + 1 := by rw [← hx]; simp [hl]
    have hh' : l.head? ≠ some 48 := by
      rcases hh with h | h
      · omega
      · exact h
    subst hs
    rw [List.all_append] at hd
    simp only [List.all_cons, List.all_nil, Bool.and_true, Bool.and_eq_true] at hd
    have hhx : x.head? ≠ some 48 := by
      intro e; apply hh'
      rw [List.head?_append, e]; rfl
    obtain ⟨i1, i2⟩ := ih x hxl hd.1 (.inr hhx)
    have i2 := i2 hhx
    have hc := hd.2
    simp [isDig] at hc
    have hv := numVal_snoc x c
    have hnn : (numVal (x ++ [c])).toNat = (numVal x).toNat * 10 + (c.toNat - 48) := by rw [hv]; omega
    refine ⟨?_, fun _ => by rw [hv]; omega⟩
    rw [decDigits, dif_neg (by rw [hnn]; omega), hnn]
    have e1 : ((numVal x).toNat * 10 + (c.toNat - 48)) / 10 = (numVal x).toNat := by omega
    have e2 : ((numVal x).toNat * 10 + (c.toNat - 48)) % 10 = c.toNat - 48 := by omega
    rw [e1, e2, i1, dig_byte c hd.2]
theorem okNum_dec (l : Bs) (h : okNum l = true) : itoa (numVal l) = l ∧ 0 ≤ numVal l := by
  unfold okNum at h
  simp only [Bool.and_eq_true, decide_eq_true_eq, Bool.not_eq_true'] at h
  obtain ⟨⟨⟨h1, h9⟩, hz⟩, hd⟩ := h
  have h0 := numVal_nonneg l hd
  refine ⟨?_, h0⟩
  unfold itoa
  rw [if_neg (by omega)]
  refine (dec_of_val l (l.length - 1) (by omega) hd ?_).1
  by_cases h : l.length = 1
  · exact .inl (by omega)
  · refine .inr fun e => ?_
    rw [e] at hz
    simp at hz
    omega
theorem itoa_ok (n : Int) (h0 : 0 ≤ n) (h : n < 1000000000) : okNum (itoa n) = true ∧ numVal (itoa n) = n ∧ (itoa n).all isDig = true ∧ itoa n ≠ [] := by
  obtain ⟨k, rfl⟩ := Int.eq_ofNat_of_zero_le h0
  have e : itoa (k : Int) = decDigits k := by
    unfold itoa
    rw [if_neg (by omega), Int.toNat_natCast]
  have hk : k < 10 ^ (8 + 1) := by simp; omega
  rw [e]
  refine ⟨?_, dec_val k, dec_dig k, dec_ne k⟩
  rw [← dec_digF 8 k hk]
  exact (dig_ok k (by omega)).1
theorem itoa_nat (k : Nat) : itoa (k : Int) = decDigits k := by
  unfold itoa
  rw [if_neg (by omega), Int.toNat_natCast]

/-! The text -/

def tail (p : Bs) : Bs := if p = [] then [] else 45 :: p
def txt (v : V) : Bs := 118 :: (itoa v.a ++ 46 :: (itoa v.b ++ 46 :: (itoa v.c ++ tail v.p.data.toList)))

theorem ok_parts {v : V} (h : v.ok = true) : (0 ≤ v.a ∧ v.a ≤ 999999) ∧ (0 ≤ v.b ∧ v.b ≤ 999999) ∧ (0 ≤ v.c ∧ v.c ≤ 999999) ∧ preOk v.p.data.toList = true := by
  unfold V.ok verOk partOk at h
  simp only [Bool.and_eq_true, decide_eq_true_eq] at h
  exact ⟨h.1.1.1, h.1.1.2, h.1.2, h.2⟩

/-- As the reference reads it: a sign, digits. -/
def rstep (d : UInt8) (s : Bs) : Option (Int × Bs) :=
  match s with
  | [] => none
  | c :: r => if c = d then (if okNum (r.takeWhile isDig) = true then some (numVal (r.takeWhile isDig), r.dropWhile isDig) else none) else none
def rtail (s : Bs) : Option Bs :=
  match s with
  | [] => some []
  | c :: r => if c = 45 ∧ r ≠ [] then some r else none
def parse (s : Bs) : Option V :=
  match rstep 118 s with
  | none => none
  | some (a, s1) => match rstep 46 s1 with
    | none => none
    | some (b, s2) => match rstep 46 s2 with
      | none => none
      | some (c, s3) => match rtail s3 with
        | none => none
        | some p => if V.ok ⟨a, b, c, str p⟩ = true then some ⟨a, b, c, str p⟩ else none

theorem rstep_some {d : UInt8} {s r : Bs} {n : Int} (h : rstep d s = some (n, r)) : s = d :: (itoa n ++ r) := by
  unfold rstep at h
  split at h
  · cases h
  · rename_i c r'
    split at h
    · rename_i e
      split at h
      · rename_i e2
        injection h with h
        injection h with h1 h2
        rw [← h1, ← h2, (okNum_dec _ e2).1, e, List.takeWhile_append_dropWhile]
      · cases h
    · cases h
theorem tw_app (x r : Bs) (hx : x.all isDig = true) (hr : ∀ c t, r = c :: t → isDig c = false) : (x ++ r).takeWhile isDig = x ∧ (x ++ r).dropWhile isDig = r := by
  induction x with
  | nil =>
    cases r with
    | nil => exact ⟨rfl, rfl⟩
    | cons c t => have := hr c t rfl; simp [this]
  | cons y x ih =>
    simp only [List.all_cons, Bool.and_eq_true] at hx
    obtain ⟨i1, i2⟩ := ih hx.2
    rw [List.cons_append, List.takeWhile_cons, List.dropWhile_cons, if_pos hx.1, if_pos hx.1, i1, i2]
    exact ⟨rfl, rfl⟩
theorem rstep_of (d : UInt8) (n : Int) (r : Bs) (h0 : 0 ≤ n) (h : n < 1000000000) (hr : ∀ c t, r = c :: t → isDig c = false) : rstep d (d :: (itoa n ++ r)) = some (n, r) := by
  obtain ⟨o1, o2, o3, o4⟩ := itoa_ok n h0 h
  obtain ⟨t1, t2⟩ := tw_app (itoa n) r o3 hr
  unfold rstep
  simp only [if_true, t1, t2, o1, o2]
theorem rtail_some {s p : Bs} (h : rtail s = some p) : s = tail p := by
  unfold rtail at h
  unfold tail
  split at h
  · injection h with h; rw [← h, if_pos rfl]
  · split at h
    · rename_i e
      injection h with h
      rw [← h, if_neg e.2, e.1]
    · cases h
theorem rtail_of (p : Bs) : rtail (tail p) = some p := by
  unfold tail
  split
  · rename_i e; rw [e]; rfl
  · rename_i e
    show (if _ then _ else _) = _
    rw [if_pos ⟨rfl, e⟩]
theorem tail_head (p : Bs) : ∀ c t, tail p = c :: t → isDig c = false := by
  intro c t h
  unfold tail at h
  split at h
  · cases h
  · injection h with h; rw [← h]; rfl

theorem parse_some {s : Bs} {v : V} (h : parse s = some v) : v.ok = true ∧ txt v = s := by
  unfold parse at h
  split at h
  · cases h
  · rename_i a s1 e1
    split at h
    · cases h
    · rename_i b s2 e2
      split at h
      · cases h
      · rename_i c s3 e3
        split at h
        · cases h
        · rename_i p e4
          split at h
          · rename_i ok
            injection h with h
            subst h
            refine ⟨ok, ?_⟩
            unfold txt
            rw [str_list, ← rtail_some e4]
            show 118 :: (itoa a ++ 46 :: (itoa b ++ 46 :: (itoa c ++ s3))) = s
            rw [← rstep_some e3, ← rstep_some e2, ← rstep_some e1]
          · cases h
theorem parse_txt {v : V} (h : v.ok = true) : parse (txt v) = some v := by
  obtain ⟨ha, hb, hc, hp⟩ := ok_parts h
  have dot : ∀ x : Bs, ∀ c t, (46 : UInt8) :: x = c :: t → isDig c = false := by
    intro x c t e; injection e with e; rw [← e]; rfl
  have e1 := rstep_of 118 v.a (46 :: (itoa v.b ++ 46 :: (itoa v.c ++ tail v.p.data.toList))) ha.1 (by omega) (dot _)
  have e2 := rstep_of 46 v.b (46 :: (itoa v.c ++ tail v.p.data.toList)) hb.1 (by omega) (dot _)
  have e3 := rstep_of 46 v.c (tail v.p.data.toList) hc.1 (by omega) (tail_head _)
  have e4 := rtail_of v.p.data.toList
  have e5 : (⟨v.a, v.b, v.c, str v.p.data.toList⟩ : V) = v := by rw [str_of]
  unfold parse
  rw [show txt v = 118 :: (itoa v.a ++ 46 :: (itoa v.b ++ 46 :: (itoa v.c ++ tail v.p.data.toList))) from rfl, e1]
  simp only [e2, e3, e4, e5, h, if_true]
theorem parse_iff (s : Bs) (v : V) : parse s = some v ↔ (v.ok = true ∧ txt v = s) := ⟨parse_some, fun h => by rw [← h.2]; exact parse_txt h.1⟩

/-! As the program reads it -/

theorem cut_at (x r : Bs) (d : UInt8) (h : ∀ c ∈ x, c ≠ d) : cut (x ++ d :: r) [d] = (x, r, true) := by
  have hi : index (x ++ d :: r) [d] = x.length := by
    rw [index_one]
    induction x with
    | nil => simp [indexByte]
    | cons y x ih =>
      have i := ih (fun c hc => h c (by simp [hc]))
      have hy := h y (by simp)
      rw [List.cons_append, indexByte, if_neg (by simpa using hy), i, if_neg (by simp)]
      simp
  unfold cut
  rw [hi, if_pos (by omega), Int.toNat_natCast]
  simp
theorem cut_none (x : Bs) (d : UInt8) (h : ∀ c ∈ x, c ≠ d) : cut x [d] = (x, [], false) := by
  have hi : index x [d] = -1 := by
    rw [index_one]
    induction x with
    | nil => rfl
    | cons y x ih =>
      have i := ih (fun c hc => h c (by simp [hc]))
      have hy := h y (by simp)
      rw [indexByte, if_neg (by simpa using hy), i]; rfl
  unfold cut
  rw [hi, if_neg (by omega)]
/-- What Atoi answers ahead of its error. -/
def num (l : Bs) : Int := match atoiAll l with | .ok v => v | .syntax => 0 | .range => atoiSat l
def pre1 (s : Bs) : Bs := trimPrefix s [118]
def partsOf (s : Bs) : Bs := (cut (pre1 s) [45]).1
def parse0 (s : Bs) : V :=
  ⟨num (cut (partsOf s) [46]).1, num (cut (cut (partsOf s) [46]).2.1 [46]).1, num (cut (cut (partsOf s) [46]).2.1 [46]).2.1, str (cut (pre1 s) [45]).2.1⟩

theorem decFrom_val : ∀ (l : Bs) (acc : Nat), l.all isDig = true → decFrom acc l = some (l.foldl (fun n c => n * 10 + (c.toNat - 48)) acc)
  | [], acc, _ => rfl
  | c :: l, acc, h => by
    simp only [List.all_cons, Bool.and_eq_true] at h
    have hc := h.1
    simp [isDig] at hc
    have hv : digitVal c = some (c.toNat - 48) := by
      unfold digitVal
      rw [if_pos ⟨by omega, by omega⟩]
    rw [decFrom, hv]
    exact decFrom_val l _ h.2
theorem fold_num : ∀ (l : Bs) (acc : Nat), l.all isDig = true → ((l.foldl (fun n c => n * 10 + (c.toNat - 48)) acc : Nat) : Int) = l.foldl (fun (n : Int) c => n * 10 + ((c.toNat : Int) - 48)) acc
  | [], acc, _ => rfl
  | c :: l, acc, h => by
    simp only [List.all_cons, Bool.and_eq_true] at h
    have hc := h.1
    simp [isDig] at hc
    rw [List.foldl_cons, List.foldl_cons, fold_num l _ h.2]
    congr 1
    omega
theorem num_digits (l : Bs) (hn : l ≠ []) (hl : l.length ≤ 18) (h : l.all isDig = true) : atoiAll l = .ok (numVal l) := by
  rw [atoiAll_short l hl]
  cases l with
  | nil => exact absurd rfl hn
  | cons c l =>
    have hc := h
    simp only [List.all_cons, Bool.and_eq_true] at hc
    have hc := hc.1
    simp [isDig] at hc
    have n45 : (c == 45) = false := by
      rw [beq_eq_false_iff_ne]; rintro rfl; simp at hc
    have n43 : (c == 43) = false := by
      rw [beq_eq_false_iff_ne]; rintro rfl; simp at hc
    have e : atoi (c :: l) = some (numVal (c :: l)) := by
      rw [atoi, if_neg (by simp [n45]), if_neg (by simp [n43]), decNat]
      rw [decFrom_val _ _ h]
      exact congrArg some (fold_num _ 0 h)
    rw [e]; rfl
theorem num_itoa (n : Int) (h0 : 0 ≤ n) (h : n < 1000000000) : num (itoa n) = n := by
  obtain ⟨o1, o2, o3, o4⟩ := itoa_ok n h0 h
  have hl : (itoa n).length ≤ 18 := by
    have := o1
    unfold okNum at this
    simp only [Bool.and_eq_true, decide_eq_true_eq] at this
    omega
  unfold num
  rw [num_digits _ o4 hl o3]
  exact o2
theorem dig_ne {x : Bs} (h : x.all isDig = true) (d : UInt8) (hd : isDig d = false) : ∀ c ∈ x, c ≠ d := by
  intro c hc e
  rw [List.all_eq_true] at h
  have := h c hc
  rw [e, hd] at this; cases this
theorem parse0_txt {v : V} (h : v.ok = true) : parse0 (txt v) = v := by
  obtain ⟨ha, hb, hc, hp⟩ := ok_parts h
  have oa := itoa_ok v.a ha.1 (by omega)
  have ob := itoa_ok v.b hb.1 (by omega)
  have oc := itoa_ok v.c hc.1 (by omega)
  have e1 : pre1 (txt v) = (itoa v.a ++ 46 :: (itoa v.b ++ 46 :: (itoa v.c ++ tail v.p.data.toList))) := by
    unfold pre1 trimPrefix hasPrefix txt
    simp
  have hx : ∀ c ∈ itoa v.a ++ 46 :: (itoa v.b ++ 46 :: itoa v.c), c ≠ 45 := by
    intro c hc
    rw [List.mem_append] at hc
    rcases hc with hc | hc
    · exact dig_ne oa.2.2.1 45 rfl c hc
    · rcases List.mem_cons.1 hc with rfl | hc
      · decide
      · rw [List.mem_append] at hc
        rcases hc with hc | hc
        · exact dig_ne ob.2.2.1 45 rfl c hc
        · rcases List.mem_cons.1 hc with rfl | hc
          · decide
          · exact dig_ne oc.2.2.1 45 rfl c hc
  have e2 : (cut (pre1 (txt v)) [45]).1 = itoa v.a ++ 46 :: (itoa v.b ++ 46 :: itoa v.c) ∧ (cut (pre1 (txt v)) [45]).2.1 = v.p.data.toList := by
    rw [e1]
    unfold tail
    split
    · rename_i e
      rw [List.append_nil, cut_none _ _ hx]
      exact ⟨rfl, e.symm⟩
    · have := cut_at (itoa v.a ++ 46 :: (itoa v.b ++ 46 :: itoa v.c)) v.p.data.toList 45 hx
      rw [List.append_assoc, List.cons_append, List.append_assoc, List.cons_append] at this
      rw [this]
      exact ⟨rfl, rfl⟩
  have e3 := cut_at (itoa v.a) (itoa v.b ++ 46 :: itoa v.c) 46 (dig_ne oa.2.2.1 46 rfl)
  have e4 := cut_at (itoa v.b) (itoa v.c) 46 (dig_ne ob.2.2.1 46 rfl)
  unfold parse0 partsOf
  rw [e2.1, e2.2, e3]
  simp only [e4]
  rw [num_itoa v.a ha.1 (by omega), num_itoa v.b hb.1 (by omega), num_itoa v.c hc.1 (by omega), str_of]
/-- A right version has one text alone: whatever is read too kindly is told from it. -/
theorem parse_is (s : Bs) : parse s = if (parse0 s).ok = true ∧ txt (parse0 s) = s then some (parse0 s) else none := by
  split
  · rename_i h; exact (parse_iff s _).2 h
  · rename_i h
    cases e : parse s with
    | none => rfl
    | some v =>
      exfalso
      obtain ⟨h1, h2⟩ := parse_some e
      have := parse0_txt h1
      rw [h2] at this
      rw [this] at h
      exact h ⟨h1, h2⟩

/-! strings.Split at a dot -/

theorem split_words : ∀ (k : Nat) (s : ByteArray), s.size ≤ k → (splitB ⟨#[46]⟩ 0 (countB s ⟨#[46]⟩) s).map (·.data.toList) = words s.data.toList
  | k, s, hk => by
    rcases index_spec s.data.toList [46] with ⟨h, _⟩ | ⟨i, h, hi, ho, hn⟩
    · have hc : countB s ⟨#[46]⟩ = 0 := countB_miss s _ h
      rw [hc, splitB_zero]
      rw [index_one] at h
      have := indexByte_none h
      simp only [List.map_cons, List.map_nil]
      rw [words_one]
      intro c hc e
      subst e
      obtain ⟨j, hj, e⟩ := List.getElem_of_mem hc
      exact this j (by rw [List.getElem?_eq_getElem hj, e])
    · have hl : s.data.toList.length = s.size := by simp
      have h' : indexB s ⟨#[46]⟩ = i := h
      rw [countB_hit s ⟨#[46]⟩ i (by decide) h', Nat.add_comm 1, splitB_hit _ _ _ _ i h']
      rw [index_one] at h
      obtain ⟨g1, g2⟩ := indexByte_some h
      have hlt : i < s.data.toList.length := by
        rw [List.getElem?_eq_some_iff] at g1
        exact g1.1
      have hs : s.data.toList = s.data.toList.take i ++ 46 :: s.data.toList.drop (i + 1) := by
        have e := List.getElem_of_getElem? g1
        obtain ⟨_, e⟩ := e
        have := List.take_append_drop i s.data.toList
        rw [List.drop_eq_getElem_cons hlt, e] at this
        exact this.symm
      have ih := split_words (k - 1) (s.extract (i + 1) s.size) (by rw [ByteArray.size_extract]; omega)
      rw [extract_to_end] at ih
      rw [List.map_cons]
      show (s.extract 0 (i + 0)).data.toList :: List.map _ (splitB _ 0 _ (s.extract (i + 1) s.size)) = _
      rw [show (ByteArray.mk #[46]).size = 1 from rfl, ih, extract_from_zero, Nat.add_zero]
      conv => rhs; rw [hs]
      rw [words_app, words_one (s.data.toList.take i)]
      · rfl
      · intro c hc e
        subst e
        obtain ⟨j, hj, e⟩ := List.getElem_of_mem hc
        rw [List.length_take] at hj
        refine g2 j (by omega) ?_
        rw [List.getElem_take] at e
        rw [List.getElem?_eq_getElem (by omega), e]
termination_by k => k
decreasing_by
  have : 0 < s.size := by omega
  omega

end Go.Vr

namespace Go.Proofs.YtnmmhihfnphjeaaGreatDoor
set_option linter.unusedVariables false
open Go.RowKit Go.Vr Go.Sort Go.Tx Go.Lib

theorem hide {p : Prop} (h : p) : Hid p := h
/-- The library's own variables, as they were laid. -/
structure Env (w : World) : Prop where
  mx : ∃ m, w.cell? ⟨Tryz.lays145_ren.g 1, 0, none⟩ = some (.int .i64 m)
  tab : TabIs Tryz.prog w "internal/strconv.uint64pow10" .u64 pow10Tab

theorem var_lt {P : Program} {w : World} {n : String} {cs : Array Value} {g : Nat} (hg : P.globalNamed n = some g) (h : w.var? P n = some cs) : g < w.heap.size := by
  unfold World.var? at h
  simp only [hg, Option.bind_some] at h
  by_cases hlt : g < w.heap.size
  · exact hlt
  · rw [Array.getElem?_eq_none (by omega)] at h; simp at h
theorem var_later {w w' : World} {n : String} {cs : Array Value} {g : Nat} (hg : Tryz.prog.globalNamed n = some g) (hb : Below w.heap.size w w') (h : w.var? Tryz.prog n = some cs) : w'.var? Tryz.prog n = some cs :=
  var?_below hb hg (var_lt hg h) h
theorem Env.later {w w' : World} (h : Env w) (hb : Below w.heap.size w w') : Env w' := by
  obtain ⟨⟨m, h1⟩, h2⟩ := h
  exact ⟨⟨m, cellLater hb h1⟩, var_later Tryz.laysM171.m17 hb h2⟩

/-- strings.IndexByte. -/
theorem indexByte_any (s : ByteArray) (c : Int) (w : World) :
    Calls Tryz.prog 115 #[.string s, .int .u8 c] w fun e w' => e = .returned (.int .i64 (indexByte s.data.toList c.toNat.toUInt8)) ∧ w' = w := Any.strings_IndexByte Tryz.lays137 s c w
/-- strings.LastIndexByte. -/
theorem lastIndexByte_any (s : ByteArray) (c : Int) (hs : s.size < 4611686018427387904) (w : World) :
    Calls Tryz.prog 58 #[.string s, .int .u8 c] w fun e w' => e = .returned (.int .i64 (lastIndexByte s c)) ∧ w' = w := Any.strings_LastIndexByte Tryz.lays149 s c hs w
/-- strings.Cut. -/
theorem cut_any (s sep : ByteArray) (w : World) (hs : s.size ≤ 100000) (he : Env w) :
    Calls Tryz.prog 97 #[.string s, .string sep] w fun e w' => e = .returned (.tuple #[.string (str (cut s.data.toList sep.data.toList).1), .string (str (cut s.data.toList sep.data.toList).2.1), .bool (cut s.data.toList sep.data.toList).2.2]) ∧ Below w.heap.size w w' := by
  obtain ⟨m, hm⟩ := he.mx
  refine (Any.strings_Cut Tryz.lays145 s sep m w (by omega) hm).mono ?_
  rintro e w' ⟨rfl, n, rfl⟩
  exact ⟨rfl, belDrewN w n⟩
/-- strconv.Itoa. -/
theorem itoa_any (n : Int) (w : World) (h0 : -9223372036854775808 ≤ n) (h1 : n ≤ 9223372036854775807) (he : Env w) :
    Calls Tryz.prog 37 #[.int .i64 n] w fun e w' => e = .returned (.string (str (itoa n))) ∧ Below w.heap.size w w' := by
  refine (Any.strconv_Itoa Tryz.laysM171 n h0 h1 w he.tab).mono ?_
  rintro e w' ⟨rfl, k, os, rfl⟩
  exact ⟨rfl, below_grow _ w (Nat.le_refl _) k os⟩
/-- strings.CutPrefix. -/
theorem cutPrefix_any (s p : ByteArray) (w : World) :
    Calls Tryz.prog 95 #[.string s, .string p] w fun e w' => e = .returned (.tuple #[.string (str (trimPrefix s.data.toList p.data.toList)), .bool (hasPrefix s.data.toList p.data.toList)]) ∧ w' = w := Any.strings_CutPrefix Tryz.lays103 s p w
end Go.Proofs.YtnmmhihfnphjeaaGreatDoor

namespace Go.Proofs.YtnmmhihfnphjeaaGreatDoor
set_option linter.unusedVariables false
open Go.RowKit Go.Lib

/-- A contract gets the laid variables and the shape of the world. -/
theorem handed_laid_shaped {H : Type} {enc : TypeId × Value → H} {a : Assume} {C : Checked} {os : Os} {f : FuncId} {fn : Func} {s : ChangeSpec} {conds : List PathCond} {apart fresh handsOn again : Bool} {laid : List (String × DataW Unit)}
    (own : ownKnob C.prog.godebug = none) (started : os.Started) (noInit : C.prog.inits.idxOf? f = none) (hfn : C.prog.funcs[f]? = some fn)
    (witness : ∃ (w : World) (tape : Tape) (i : Input), w.os = os ∧ (w.forCall tape i).Shaped C.prog ∧ i.vars = [] ∧ Input.okWide C.prog (w.forCall tape i) .any w.heap.size f i ∧
      ((s.pre enc C.prog fn conds apart (w.forCall tape i).memory i.args ∧ laidMetH C.prog laid (w.forCall tape i).memory) ∧ sizedMet enc C.prog fn (OpenSpec.ofChange s) apart (w.forCall tape i).memory i.args) ∧ a.holds C.prog (lone (Frame.enter C.prog f i.args .normal) [] (w.forCall tape i)))
    (contract : ∀ (W : World) (base : Nat) (args : Array Value) (ds gs : List (DataW H)) (before : List MemPlace),
      (∀ (j : Nat) t v, fn.params[j]? = some t → args[j]? = some v → Value.okWide C.prog W .any base t v) →
      DataW.Whole enc C.prog fn.params.toList s.vars apart W args.toList ds gs before →
      (DataW.weightsEach C.prog (fn.params.toList ++ s.plain.varTypes C.prog) (ds ++ gs)).all (· ≤ reachBytes) = true → laidMetH C.prog laid W → W.ShapedOpen C.prog →
      Calls C.prog f args W fun e W' => ∃ v, e = .returned v ∧ s.post enc C.prog fn apart fresh handsOn again W args v W') :
    ReturnsInHanded a C os f .any (fun w args => (s.pre enc C.prog fn conds apart w args ∧ laidMetH C.prog laid w) ∧ sizedMet enc C.prog fn (OpenSpec.ofChange s) apart w args) (s.post enc C.prog fn apart fresh handsOn again) := by
  refine returnsInHanded_of_calls own started noInit witness ?_
  intro w tape i _ hsh _ hok hpre hholds
  obtain ⟨_, _, _, fn', hfn', _, _, _, _, hval⟩ := hok
  have e : fn' = fn := Option.some.inj (hfn'.symm.trans hfn)
  subst e
  obtain ⟨⟨⟨ds, gs, before, hw, hc⟩, hx⟩, hz⟩ := hpre
  have hw' := DataW.Whole.of_heap (w' := w.forCall tape i) (by rfl) hw
  refine (contract (w.forCall tape i) w.heap.size i.args ds gs before hval hw' (hz.weights hw) (hx.of_heap (by rfl)) hsh).mono fun e W' ⟨v, he, hp⟩ => ?_
  subst he
  exact ChangeSpec.post_blind hp

set_option maxRecDepth 100000 in
theorem env_of {W : World} (h : laidMetH Tryz.prog Rows.braceBackRow.laid W) (hs : W.ShapedOpen Tryz.prog) : Env W := by
  rw [MakeChecks.laidMetH_plain _ _ _ (by kernel_rfl)] at h
  have h3 := h.tail.tail
  refine ⟨?_, ?_⟩
  · exact cell_of_shapedOpen_int (t := 3) (zero := #[.int .i64 0]) hs (of_decide_eq_true (by kernel_rfl)) (by kernel_rfl) rfl (by kernel_rfl) (by kernel_rfl) Tryz.underlying3
  · exact tabIs_of_head (g := 1) (k := .u64) (zs := pow10Tab) (by kernel_rfl) (by kernel_rfl) Tryz.underlying145 Tryz.underlying125 (by kernel_rfl) (by kernel_rfl) h3

end Go.Proofs.YtnmmhihfnphjeaaGreatDoor
