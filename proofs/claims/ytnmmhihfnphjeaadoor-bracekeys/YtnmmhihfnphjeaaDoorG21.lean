/-
  Plain mathematics of the law's own paths: which one is made of a number; each may be.
  Contract of the reference's words of a path.
  Contracts of the reference's digits and word.
  Plain mathematics of paths: the last slash, majors as the program reads them, what the laws ask.
  Contracts of the reference's Right, Within.
  Contract of the versions' Make: what it answers is a version that may be. Versions as values, as variables.
-/
import Derived.Test.YtnmmhihfnphjeaaDoorG07
import Derived.Test.YtnmmhihfnphjeaaDoorG03
import Derived.Test.YtnmmhihfnphjeaaDoorG20

namespace Go.Pa
set_option linter.unusedVariables false
open Go.Lib Go.Tx Go.Vr

theorem right_slash (s w : Bs) (h : ∀ c ∈ w, c ≠ 47) : (sw (s ++ 47 :: w)).all wOk = ((sw s).all wOk && wOk w) := by
  rw [sw_app, sw_one w h, List.all_append]
  simp
theorem wOk_noslash {w : Bs} (h : wOk w = true) : ∀ c ∈ w, c ≠ 47 := by
  unfold wOk at h
  rw [Bool.and_eq_true, List.all_eq_true] at h
  intro c hc e
  subst e
  have := h.2 47 hc
  exact absurd this (by decide)

/-- The words that the law takes. -/
def pw : List Bs := [[97], [98], [97, 46, 98], [99, 45, 100], [118, 50], [118, 51], [118, 49], [118, 48, 50], [95], [108, 105, 98], [118, 50, 48]]
def pwA (j : Nat) : Bs := pw.getD j []
theorem pw_ok : ∀ i, i < 11 → wOk (pwA i) = true ∧ (pwA i).length ≤ 3 := by
  have h : ((List.range 11).all fun i => wOk (pwA i) && decide ((pwA i).length ≤ 3)) = true := by decide +kernel
  intro i hi
  have := List.all_eq_true.1 h i (List.mem_range.2 hi)
  rw [Bool.and_eq_true, decide_eq_true_eq] at this
  exact this
/-- So many words more. -/
def mkLoop : Nat → Nat → Bs → Bs
  | 0, _, s => s
  | i + 1, k, s => mkLoop i (k / 4) (s ++ 47 :: pwA (k / 4 % 11))
def mkN (k : Nat) : Bs := mkLoop (k / 11 % 4) (k / 11) (pwA (k % 11))
/-- The path of a number. -/
def mkP (n : Int) : Bs := mkN (n % 1099511627776).toNat
theorem mkLoop_ok : ∀ (i k : Nat) (s : Bs), (sw s).all wOk = true → (sw (mkLoop i k s)).all wOk = true ∧ (mkLoop i k s).length ≤ s.length + 4 * i
  | 0, k, s, h => ⟨h, by simp [mkLoop]⟩
  | i + 1, k, s, h => by
    obtain ⟨h1, h2⟩ := pw_ok (k / 4 % 11) (Nat.mod_lt _ (by omega))
    obtain ⟨h3, h4⟩ := mkLoop_ok i (k / 4) (s ++ 47 :: pwA (k / 4 % 11)) (by rw [right_slash _ _ (wOk_noslash h1), h, h1]; rfl)
    refine ⟨h3, Nat.le_trans h4 ?_⟩
    rw [List.length_append, List.length_cons]
    omega
theorem mkN_ok (k : Nat) : (sw (mkN k)).all wOk = true ∧ (mkN k).length ≤ 15 := by
  obtain ⟨h1, h2⟩ := pw_ok (k % 11) (Nat.mod_lt _ (by omega))
  obtain ⟨h3, h4⟩ := mkLoop_ok (k / 11 % 4) (k / 11) (pwA (k % 11)) (by rw [sw_one _ (wOk_noslash h1)]; simp [h1])
  have : k / 11 % 4 < 4 := Nat.mod_lt _ (by omega)
  exact ⟨h3, by unfold mkN; omega⟩
theorem mkP_ok (n : Int) : right (mkP n) = true ∧ 1 ≤ (mkP n).length ∧ (mkP n).length ≤ 15 := by
  obtain ⟨h1, h2⟩ := mkN_ok (n % 1099511627776).toNat
  have hr : right (mkP n) = true := by
    unfold right mkP
    rw [h1, decide_eq_true (by omega)]; rfl
  exact ⟨hr, (right_short hr).1, h2⟩

end Go.Pa

namespace Go.Proofs.YtnmmhihfnphjeaaDoor
set_option linter.unusedSimpArgs false
set_option linter.unusedVariables false
open Go.RowKit Go.Vr Go.Sort Go.Tx Go.Pa
attribute [local go_sem] setCellDrewN allocDrewN

theorem byte_eq (c : UInt8) (d : UInt8) (h : ((c.toNat : Int) == (d.toNat : Int)) = true) : c = d := UInt8.toNat_inj.1 (by have := beq_iff_eq.1 h; omega)
theorem byte_ne (c : UInt8) (d : UInt8) (h : ((c.toNat : Int) == (d.toNat : Int)) = false) : c ≠ d := by rintro rfl; simp at h

/-- How far the words of a text are told. -/
def SInv (s : ByteArray) (k f : Nat) (os : List Bs) : Prop := (k ≤ s.size ∧ sw (s.data.toList.take k) = os ++ [(s.data.toList.take k).drop f]) ∨ (k = s.size + 1 ∧ sw s.data.toList = os)
theorem SInv.start (s : ByteArray) : SInv s 0 0 [] := .inl ⟨Nat.zero_le _, rfl⟩
theorem piece_list (s : ByteArray) (f k : Nat) : (s.extract f k).data.toList = (s.data.toList.take k).drop f := by
  rw [Lib.extract_data, List.drop_take]
theorem SInv.dot {s : ByteArray} {k f : Nat} {os : List Bs} (h : SInv s k f os) (hlt : k < s.size) (hc : s[k] = 47) : SInv s (k + 1) (k + 1) (os ++ [(s.extract f k).data.toList]) := by
  rcases h with ⟨_, h⟩ | ⟨h, _⟩
  · refine .inl ⟨by omega, ?_⟩
    have e : (s.data.toList.take k ++ [47]).drop (k + 1) = [] := List.drop_of_length_le (by simp; omega)
    rw [take_snoc s k hlt, hc, sw_app _ _, h, piece_list, e]
    rfl
  · omega
theorem SInv.last {s : ByteArray} {f : Nat} {os : List Bs} (h : SInv s s.size f os) : SInv s (s.size + 1) (s.size + 1) (os ++ [(s.extract f s.size).data.toList]) := by
  rcases h with ⟨_, h⟩ | ⟨h, _⟩
  · refine .inr ⟨rfl, ?_⟩
    rw [take_all s s.size (Nat.le_refl _)] at h
    rw [h, piece_list, take_all s s.size (Nat.le_refl _)]
  · omega
theorem SInv.more {s : ByteArray} {k f : Nat} {os : List Bs} (h : SInv s k f os) (hf : f ≤ k) (hlt : k < s.size) (hc : s[k] ≠ 47) : SInv s (k + 1) f os := by
  rcases h with ⟨_, h⟩ | ⟨h, _⟩
  · refine .inl ⟨by omega, ?_⟩
    rw [take_snoc s k hlt, sw_snoc _ hc _ _ _ h]
    rw [List.drop_append_of_le_length (by simp; omega)]
  · omega
theorem SInv.done {s : ByteArray} {k f : Nat} {os : List Bs} (h : SInv s k f os) (hk : s.size < k) : sw s.data.toList = os := by
  rcases h with ⟨h, _⟩ | ⟨_, h⟩
  · omega
  · exact h

end Go.Proofs.YtnmmhihfnphjeaaDoor

namespace Go.Proofs.YtnmmhihfnphjeaaDoor
set_option linter.unusedVariables false
open Go.RowKit Go.Vr

theorem all_take_succ (p : UInt8 → Bool) (s : ByteArray) (k : Nat) (h : k < s.size) : (s.data.toList.take (k + 1)).all p = ((s.data.toList.take k).all p && p s[k]) := by rw [Tx.take_snoc s k h]; simp [List.all_append]
theorem all_not (p : UInt8 → Bool) (s : ByteArray) (k : Nat) (h : k < s.size) (hb : p s[k] = false) : s.data.toList.all p = false := by
  have hm : s[k] ∈ s.data.toList := by
    have : s[k] = s.data.toList[k]'(by simpa using h) := rfl
    rw [this]; exact List.getElem_mem _
  rw [List.all_eq_false]
  exact ⟨_, hm, by simp [hb]⟩
theorem isEmpty_eq (s : ByteArray) : s.data.toList.isEmpty = decide (s.size = 0) := by
  have := Tx.len_eq s
  cases e : s.data.toList with
  | nil => rw [e] at this; simp at this; simp [← this]
  | cons c l => rw [e] at this; simp only [List.length_cons] at this; rw [decide_eq_false (by omega)]; rfl
theorem digs_eq (s : ByteArray) : digs s.data.toList = (decide (s.size ≠ 0) && s.data.toList.all Tx.isDig) := by
  unfold digs
  rw [isEmpty_eq]; simp
theorem toList_data (s : ByteArray) : s.toList = s.data.toList := by obtain ⟨⟨l⟩⟩ := s; simp
theorem empty_eq (s : ByteArray) : s.toList.isEmpty = decide (s.size = 0) := by rw [toList_data, isEmpty_eq]

end Go.Proofs.YtnmmhihfnphjeaaDoor

namespace Go.Pa
set_option linter.unusedVariables false
open Go.Lib Go.Tx Go.Vr

theorem last_slash (s : ByteArray) : (lastIndexByte s 47 = -1 ∧ lastS s.data.toList = none) ∨ ∃ i : Nat, i < s.size ∧ lastIndexByte s 47 = i ∧ lastS s.data.toList = some ((s.extract 0 i).data.toList, (s.extract (i + 1) s.size).data.toList) := by
  have hl := len_eq s
  rcases lastIdx_spec s 47 s.size with ⟨e, hn⟩ | ⟨i, hi, e, hc, hn⟩
  · refine .inl ⟨e, lastS_of_none ?_⟩
    intro c hc h
    subst h
    obtain ⟨j, hj, e2⟩ := List.getElem_of_mem hc
    refine hn j (by omega) ?_
    rw [get_data s j hj, e2]; rfl
  · refine .inr ⟨i, hi, e, ?_⟩
    have hil : i < s.data.toList.length := by omega
    have hci : s.data.toList[i] = 47 := by
      rw [get_data s i hil] at hc
      exact UInt8.toNat_inj.1 (by show _ = 47; omega)
    have hs : s.data.toList = s.data.toList.take i ++ 47 :: s.data.toList.drop (i + 1) := by
      have := List.take_append_drop i s.data.toList
      rw [List.drop_eq_getElem_cons hil, hci] at this
      exact this.symm
    have e1 : (s.extract 0 i).data.toList = s.data.toList.take i := by rw [Lib.extract_data]; simp
    have e2 : (s.extract (i + 1) s.size).data.toList = s.data.toList.drop (i + 1) := by
      rw [Lib.extract_data, List.take_of_length_le]
      rw [List.length_drop]; omega
    rw [e1, e2]
    conv => lhs; rw [hs]
    refine lastS_app _ ?_ _
    intro c hc2 h
    subst h
    obtain ⟨j, hj, e3⟩ := List.getElem_of_mem hc2
    rw [List.length_drop] at hj
    rw [List.getElem_drop] at e3
    refine hn (i + 1 + j) (by omega) (by omega) ?_
    rw [get_data s (i + 1 + j) (by omega), e3]; rfl

theorem okNum_len {l : Bs} (h : okNum l = true) : l.length ≤ 9 := by
  unfold okNum at h
  simp only [Bool.and_eq_true, decide_eq_true_eq] at h
  exact h.1.1.2
theorem maj_atoi {d : Bs} {n : Int} (h : majW (118 :: d) = some n) : d = itoa n ∧ atoiAll d = .ok n := by
  obtain ⟨h1, h2, h3, h4⟩ := majW_some h
  obtain rfl : d = itoa n := by injection h1
  obtain ⟨_, h6, h7, h8⟩ := itoa_ok n (by omega) (by omega)
  exact ⟨rfl, by rw [num_digits _ h8 (by have := okNum_len h4; omega) h7, h6]⟩
theorem maj_ok {d : Bs} {v : Int} (h : atoiAll d = .ok v) : majW (118 :: d) = if 2 ≤ v ∧ v ≤ 999999 ∧ itoa v = d then some v else none := by
  by_cases c : 2 ≤ v ∧ v ≤ 999999 ∧ itoa v = d
  · rw [if_pos c, ← c.2.2]
    exact majW_of c.1 c.2.1
  · rw [if_neg c]
    cases e : majW (118 :: d) with
    | none => rfl
    | some n =>
      obtain ⟨h1, h2⟩ := maj_atoi e
      rw [h] at h2
      obtain rfl : v = n := by injection h2
      obtain ⟨_, h3, h4, _⟩ := majW_some e
      exact absurd ⟨h3, h4, h1.symm⟩ c
theorem maj_err {d : Bs} (h : ∀ v, atoiAll d ≠ .ok v) : majW (118 :: d) = none := by
  cases e : majW (118 :: d) with
  | none => rfl
  | some n => exact absurd (maj_atoi e).2 (h n)
theorem maj_novee {w : Bs} (h : hasPrefix w [118] = false) : majW w = none := by
  cases w with
  | nil => rfl
  | cons c d =>
    unfold majW
    refine if_neg ?_
    rintro ⟨rfl, _⟩
    exact absurd h (by unfold hasPrefix; simp)
theorem vee {w : Bs} (h : hasPrefix w [118] = true) : w = 118 :: trimPrefix w [118] := by
  cases w with
  | nil => exact absurd h (by decide)
  | cons c d =>
    have h2 : ((118 : UInt8) == c && List.isPrefixOf [] d) = true := h
    have hc : c = 118 := by rw [Bool.and_eq_true] at h2; exact (beq_iff_eq.1 h2.1).symm
    subst hc
    unfold trimPrefix
    rw [h]; rfl

theorem inside_self (a : Bs) : inside a a = true := (inside_iff a a).2 (.inl rfl)
theorem inside_more (a b : Bs) : inside (a ++ 47 :: b) a = true := (inside_iff _ _).2 (.inr ⟨b, rfl⟩)
theorem inside_less (a b : Bs) : inside a (a ++ 47 :: b) = false := by
  cases e : inside a (a ++ 47 :: b) with
  | false => rfl
  | true =>
    have := inside_len e
    rw [List.length_append, List.length_cons] at this
    omega
theorem inside_x (a : Bs) : inside (a ++ [120]) a = false := by
  cases e : inside (a ++ [120]) a with
  | false => rfl
  | true =>
    rcases (inside_iff _ _).1 e with h | ⟨t, h⟩
    · have := congrArg List.length h
      simp at this
    · have := List.append_cancel_left h
      simp at this
theorem fits_self (s : Bs) : fits s (maj s).2 = true := by unfold fits; simp
theorem fits_one (s : Bs) : fits s 1 = ((maj s).2 == 0) := by
  obtain ⟨_, _, h⟩ := maj_nonneg s
  unfold fits
  have : ((maj s).2 == 1) = false := by simpa using h
  rw [this]; simp
theorem maj_y (x : Bs) : maj (x ++ [47, 121]) = (x ++ [47, 121], 0) := by
  unfold maj
  rw [show x ++ [47, 121] = x ++ 47 :: [121] from rfl, lastS_app [121] (by decide) x]
  rfl
theorem may_xy (root : Bs) (a : Int) : may root a (root ++ [120, 47, 121]) = false := by
  have e : root ++ [120, 47, 121] = (root ++ [120]) ++ [47, 121] := by simp
  unfold may
  rw [e, maj_y, ← e]
  cases h : inside root (root ++ [120, 47, 121]) with
  | false => simp
  | true =>
    have := inside_len h
    simp at this
    omega
theorem may_self {root : Bs} {a : Int} (h : (maj root).2 = 0) (h0 : a = 0 ∨ a = 1) : may root a root = true := by
  unfold may fits
  rw [maj_zero h, inside_self, h]
  rcases h0 with rfl | rfl <;> rfl
theorem more_found {root : Bs} {a : Int} (l : List Bs) (h : (maj root).2 = 0) (h0 : a = 0 ∨ a = 1) : find root a (l ++ [root]) = some root := by
  obtain ⟨q, h1, h2, h3⟩ := find_may root a l root (may_self h h0)
  rw [h1]
  have h4 := cmpF_len h2
  rw [maj_zero h] at h4
  unfold may at h3
  rw [Bool.and_eq_true] at h3
  obtain ⟨h5, h6⟩ := h3
  have h7 : root = (maj q).1 := by
    rcases (inside_iff _ _).1 h6 with h7 | ⟨t, h7⟩
    · exact h7
    · have := congrArg List.length h7
      rw [List.length_append, List.length_cons] at this
      omega
  have h8 : (maj q).2 = 0 := by
    obtain ⟨g1, g2, g3⟩ := maj_nonneg q
    unfold fits at h5
    simp only [Bool.or_eq_true, Bool.and_eq_true, beq_iff_eq] at h5
    omega
  rw [h7, maj_zero h8]
theorem main_len {root : Bs} (h : (maj root).2 ≠ 0) : (maj root).1 ≠ root := by
  intro e
  have := congrArg List.length (maj_more h)
  rw [List.length_append, e] at this
  simp at this

end Go.Pa

namespace Go.Proofs.YtnmmhihfnphjeaaDoor
set_option linter.unusedSimpArgs false
set_option linter.unusedVariables false
open Go.RowKit Go.Vr Go.Sort Go.Tx Go.Pa
attribute [local go_sem] setCellDrewN allocDrewN

theorem sw_count : ∀ (l : Bs), (sw l).length ≤ l.length + 1 := by
  intro l
  induction l with
  | nil => simp [sw]
  | cons c l ih =>
    by_cases h : c = 47
    · subst h
      rw [sw_slash]; simp; omega
    · cases e : sw l with
      | nil => exact absurd e (sw_ne l)
      | cons v vs =>
        rw [sw_cons h e]
        rw [e] at ih
        simp at ih ⊢; omega
theorem sgs_when (n : Nat) (h : n < 256) : sgs (UInt8.ofNat n) = true → ((97 ≤ (n : Int) ∧ (n : Int) ≤ 122) ∨ (48 ≤ (n : Int) ∧ (n : Int) ≤ 57) ∨ (n : Int) = 46 ∨ (n : Int) = 45 ∨ (n : Int) = 95 ∨ (n : Int) = 47) := by
  have key : ∀ m : Fin 256, sgs (UInt8.ofNat m.val) = true → ((97 ≤ m.val ∧ m.val ≤ 122) ∨ (48 ≤ m.val ∧ m.val ≤ 57) ∨ m.val = 46 ∨ m.val = 45 ∨ m.val = 95 ∨ m.val = 47) := by decide +kernel
  intro hs
  have := key ⟨n, h⟩ hs
  simp only at this
  omega
theorem sgs_not (n : Nat) (h : n < 256) : sgs (UInt8.ofNat n) = false → (((n : Int) < 48) ∨ (57 < (n : Int) ∧ (n : Int) < 97) ∨ 122 < (n : Int)) ∧ (n : Int) ≠ 46 ∧ (n : Int) ≠ 45 ∧ (n : Int) ≠ 95 ∧ (n : Int) ≠ 47 := by
  have key : ∀ m : Fin 256, sgs (UInt8.ofNat m.val) = false → ((m.val < 48) ∨ (57 < m.val ∧ m.val < 97) ∨ 122 < m.val) ∧ m.val ≠ 46 ∧ m.val ≠ 45 ∧ m.val ≠ 95 ∧ m.val ≠ 47 := by decide +kernel
  intro hs
  have := key ⟨n, h⟩ hs
  simp only at this
  omega
theorem of_nat (c : UInt8) : UInt8.ofNat c.toNat = c := by simp
/-- As the reference asks, word by word. -/
theorem bad_empty (x : Bs) (h : x = []) : (!badW x) = false := by subst h; rfl
theorem bad_two (x : Bs) (h : x.isEmpty = false) (h1 : (x == [46]) = false) (h2 : (x == [46, 46]) = false) : (!badW x) = true := by
  unfold badW
  have : (x == []) = false := by cases x with | nil => exact absurd h (by decide) | cons a b => rfl
  rw [this, h1, h2]; rfl

theorem inside_cut {s r : Bs} (h : r.length < s.length) : inside s r = (s.take (r.length + 1) == r ++ [47]) := by
  rw [Bool.eq_iff_iff, inside_iff, beq_iff_eq]
  constructor
  · rintro (rfl | ⟨t, rfl⟩)
    · omega
    · have e : r ++ 47 :: t = (r ++ [47]) ++ t := by simp
      rw [e, List.take_left' (by simp)]
  · intro e
    refine .inr ⟨s.drop (r.length + 1), ?_⟩
    have := List.take_append_drop (r.length + 1) s
    rw [e] at this
    rw [← this]; simp
theorem inside_short {s r : Bs} (h : s ≠ r) (hl : ¬ r.length < s.length) : inside s r = false := by
  cases e : inside s r with
  | false => rfl
  | true =>
    rcases (inside_iff s r).1 e with h2 | ⟨t, h2⟩
    · exact absurd h2 h
    · rw [h2] at hl; simp at hl

end Go.Proofs.YtnmmhihfnphjeaaDoor

namespace Go.Proofs.YtnmmhihfnphjeaaDoor
set_option linter.unusedSimpArgs false
set_option linter.unusedVariables false
open Go.RowKit Go.Vr Go.Sort Go.Tx Go.Lib
attribute [local go_sem] setCellDrewN allocDrewN

/-- A version as a value. -/
abbrev ver (a b c : Int) (p : ByteArray) : Value := .agg #[.int .i64 a, .int .i64 b, .int .i64 c, .string p]
abbrev val (v : V) : Value := ver v.a v.b v.c v.p
/-- A variable of the call's own that holds a version. -/
structure VarAt (w : World) (N : Nat) (v : V) : Prop where
  lt : N < w.heap.size
  c0 : w.cell? ⟨N, 0, none⟩ = some (.int .i64 v.a)
  c1 : w.cell? ⟨N, 1, none⟩ = some (.int .i64 v.b)
  c2 : w.cell? ⟨N, 2, none⟩ = some (.int .i64 v.c)
  c3 : w.cell? ⟨N, 3, none⟩ = some (.string v.p)
  f0 : w.frozen? ⟨N, 0, none⟩ = false
  f1 : w.frozen? ⟨N, 1, none⟩ = false
  f2 : w.frozen? ⟨N, 2, none⟩ = false
  f3 : w.frozen? ⟨N, 3, none⟩ = false
theorem VarAt.later {w w' : World} {N : Nat} {v : V} (h : VarAt w N v) (b : Below w.heap.size w w') : VarAt w' N v :=
  ⟨Nat.lt_of_lt_of_le h.lt b.size, cellLater b h.c0, cellLater b h.c1, cellLater b h.c2, cellLater b h.c3, (b.frozen (p := ⟨N, 0, none⟩) h.lt).trans h.f0, (b.frozen (p := ⟨N, 1, none⟩) h.lt).trans h.f1, (b.frozen (p := ⟨N, 2, none⟩) h.lt).trans h.f2, (b.frozen (p := ⟨N, 3, none⟩) h.lt).trans h.f3⟩
def mt : List ByteArray := [⟨#[48]⟩, ⟨#[49]⟩, ⟨#[49, 48]⟩, ⟨#[50]⟩, ⟨#[97]⟩, ⟨#[114, 99]⟩, ⟨#[114, 99, 49]⟩, ⟨#[65]⟩, ⟨#[45]⟩, ⟨#[48, 97]⟩, ⟨#[97, 108, 112, 104, 97]⟩, ⟨#[57, 57, 57, 57, 57, 57, 57, 57, 57, 57]⟩, ⟨#[50, 48, 50, 48, 48, 49, 48, 49, 48, 48, 48, 48, 48, 48, 45, 97, 98, 99, 100, 101, 102, 48, 49, 50, 51, 52, 53]⟩]
abbrev mobj : Obj := .cells #[.string ⟨#[48]⟩, .string ⟨#[49]⟩, .string ⟨#[49, 48]⟩, .string ⟨#[50]⟩, .string ⟨#[97]⟩, .string ⟨#[114, 99]⟩, .string ⟨#[114, 99, 49]⟩, .string ⟨#[65]⟩, .string ⟨#[45]⟩, .string ⟨#[48, 97]⟩, .string ⟨#[97, 108, 112, 104, 97]⟩, .string ⟨#[57, 57, 57, 57, 57, 57, 57, 57, 57, 57]⟩, .string ⟨#[50, 48, 50, 48, 48, 49, 48, 49, 48, 48, 48, 48, 48, 48, 45, 97, 98, 99, 100, 101, 102, 48, 49, 50, 51, 52, 53]⟩] 9
theorem m_words : ∀ i, i < 13 → words (mt.getD i ⟨#[]⟩).data.toList = [(mt.getD i ⟨#[]⟩).data.toList] ∧ wordOk (mt.getD i ⟨#[]⟩).data.toList = true ∧ (mt.getD i ⟨#[]⟩).size ≤ 27 := by
  have h : ((List.range 13).all fun i => decide (words (mt.getD i ⟨#[]⟩).data.toList = [(mt.getD i ⟨#[]⟩).data.toList]) && (wordOk (mt.getD i ⟨#[]⟩).data.toList && decide ((mt.getD i ⟨#[]⟩).size ≤ 27))) = true := by decide +kernel
  intro i hi
  have := List.all_eq_true.1 h i (List.mem_range.2 hi)
  rw [Bool.and_eq_true, Bool.and_eq_true] at this
  exact ⟨of_decide_eq_true this.1, this.2.1, of_decide_eq_true this.2.2⟩
/-- The row of words in memory. -/
def MRow (w : World) (N : Nat) : Prop := N < w.heap.size ∧ ∀ j, j < 13 → w.cell? ⟨N, j, none⟩ = some (.string (mt.getD j ⟨#[]⟩))
theorem m_row (w : World) : MRow (w.alloc mobj) w.heap.size := by
  refine ⟨by simp, fun j hj => ?_⟩
  have e : mobj = .cells (mt.map Value.string).toArray 9 := rfl
  rw [e]
  have hl : j < mt.length := hj
  simp [List.getElem?_eq_getElem hl]
theorem MRow.set {w : World} {N M o : Nat} (h : MRow w N) (v : Value) (hne : M ≠ N) : MRow (w.setCell ⟨M, o, none⟩ v) N :=
  ⟨by simpa [World.setCell] using h.1, fun j hj => by rw [World.cell?_setCell_other _ _ _ _ (by simp [hne])]; exact h.2 j hj⟩
theorem MRow.drew {w : World} {N : Nat} (h : MRow w N) : MRow w.drew N := h
theorem VarAt.set3 {w : World} {N : Nat} {a b c : Int} {p : ByteArray} (h : VarAt w N ⟨a, b, c, p⟩) (q : ByteArray) : VarAt (w.setCell ⟨N, 3, none⟩ (.string q)) N ⟨a, b, c, q⟩ := by
  obtain ⟨lt, c0, c1, c2, c3, f0, f1, f2, f3⟩ := h
  exact ⟨by simpa [World.setCell] using lt, by simp [go_sem, c0, c1, c2, c3], by simp [go_sem, c0, c1, c2, c3], by simp [go_sem, c0, c1, c2, c3], by simp [go_sem, c0, c1, c2, c3], by simp [go_sem, f0], by simp [go_sem, f1], by simp [go_sem, f2], by simp [go_sem, f3]⟩
theorem VarAt.far3 {w : World} {N M o : Nat} {u : V} (h : VarAt w M u) (v : Value) (hne : N ≠ M) : VarAt (w.setCell ⟨N, o, none⟩ v) M u := by
  obtain ⟨lt, c0, c1, c2, c3, f0, f1, f2, f3⟩ := h
  exact ⟨by simpa [World.setCell] using lt, by simp [go_sem, c0, hne], by simp [go_sem, c1, hne], by simp [go_sem, c2, hne], by simp [go_sem, c3, hne], by simp [go_sem, f0], by simp [go_sem, f1], by simp [go_sem, f2], by simp [go_sem, f3]⟩
theorem VarAt.drew {w : World} {N : Nat} {u : V} (h : VarAt w N u) : VarAt w.drew N u := ⟨h.lt, h.c0, h.c1, h.c2, h.c3, h.f0, h.f1, h.f2, h.f3⟩

/-- So many words, dotted. -/
def G (k : Nat) (p : ByteArray) : Prop := p.size ≤ 28 * k ∧ (k = 0 → p.data.toList = []) ∧ (k ≠ 0 → (words p.data.toList).all wordOk = true)
theorem G.first {p x : ByteArray} (h : G 0 p) (h1 : words x.data.toList = [x.data.toList]) (h2 : wordOk x.data.toList = true) (h3 : x.size ≤ 27) : G 1 (p ++ x) := by
  obtain ⟨a, b, c⟩ := h
  refine ⟨by rw [ByteArray.size_append]; omega, fun e => by omega, fun _ => ?_⟩
  rw [ba_app, b rfl, List.nil_append, h1]
  simp [h2]
theorem G.more {k : Nat} {p x : ByteArray} (h : G k p) (hk : k ≠ 0) (h1 : words x.data.toList = [x.data.toList]) (h2 : wordOk x.data.toList = true) (h3 : x.size ≤ 27) : G (k + 1) ((p ++ ⟨#[46]⟩) ++ x) := by
  obtain ⟨a, b, c⟩ := h
  refine ⟨by rw [ByteArray.size_append, ByteArray.size_append]; have : (ByteArray.mk #[46]).size = 1 := rfl; omega, fun e => by omega, fun _ => ?_⟩
  have e : ((p ++ ⟨#[46]⟩) ++ x).data.toList = p.data.toList ++ 46 :: x.data.toList := by rw [ba_app, ba_app]; simp
  rw [e, words_app, h1, List.all_append, c hk]
  simp [h2]
theorem G.ok {k : Nat} {p : ByteArray} (h : G k p) (hs : p.size ≤ 40) : preOk p.data.toList = true := by
  obtain ⟨a, b, c⟩ := h
  unfold preOk
  rw [len_eq]
  by_cases hk : k = 0
  · simp [hs, b hk]
  · simp only [c hk, Bool.or_true, Bool.and_true]; simpa using hs
theorem quoN (k : Nat) (m : Int) (h : 1 ≤ m) (hk : k < 1099511627776) : ∃ d : Nat, Int.tdiv (k : Int) m = (d : Int) ∧ d < 1099511627776 ∧ IntKind.i64.wrap (d : Int) = d := by
  have h1 : Int.tdiv (k : Int) m = (k : Int) / m := Int.tdiv_eq_ediv_of_nonneg (by omega)
  have h2 : 0 ≤ (k : Int) / m := Int.ediv_nonneg (by omega) (by omega)
  have h3 : (k : Int) / m ≤ k := Int.ediv_le_self _ (by omega)
  exact ⟨((k : Int) / m).toNat, by rw [h1]; omega, by omega, by rw [IntKind.wrap_i64]; omega⟩
theorem remN (k : Nat) (m : Int) (h : 1 ≤ m) : ∃ d : Nat, Int.tmod (k : Int) m = (d : Int) ∧ (d : Int) < m := by
  have h1 : Int.tmod (k : Int) m = (k : Int) % m := Int.tmod_eq_emod_of_nonneg (by omega)
  have h2 : 0 ≤ (k : Int) % m := Int.emod_nonneg _ (by omega)
  have h3 : (k : Int) % m < m := Int.emod_lt_of_pos _ (by omega)
  exact ⟨((k : Int) % m).toNat, by rw [h1]; omega, by omega⟩
theorem made_ok {xa xb xc : Int} {q : ByteArray} (ha : 0 ≤ xa ∧ xa ≤ 999999) (hb : 0 ≤ xb ∧ xb ≤ 999999) (hc : 0 ≤ xc ∧ xc ≤ 999999) (hq : preOk q.data.toList = true) : (V.mk xa xb xc q).ok = true := by
  unfold V.ok verOk partOk
  simp [ha.1, ha.2, hb.1, hb.2, hc.1, hc.2, hq]

end Go.Proofs.YtnmmhihfnphjeaaDoor
