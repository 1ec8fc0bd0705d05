/-
  Contracts of the reference's small functions: numbers, digits, signs.
  Plain mathematics of the law's own paths: which one is made of a number; each may be.
  Contract of the reference's words of a path.
  Contracts of the reference's digits and word.
  Plain mathematics of paths: the last slash, majors as the program reads them, what the laws ask.
  Contracts of the reference's Right, Within.
-/
import Derived.Test.YtnmmhihfnphjeaaGreatDoorProg
import Derived.Test.YtnmmhihfnphjeaaGreatDoorG13
import Derived.WalkKit
import Derived.WalkSpells
import Derived.WalkLawsBesides
import Derived.Laws.BytesArg
import Derived.Test.YtnmmhihfnphjeaaGreatDoorG14
import Derived.Test.YtnmmhihfnphjeaaGreatDoorG11

namespace Go.Proofs.YtnmmhihfnphjeaaGreatDoor
set_option linter.unusedVariables false
open Go.RowKit Go.Vr

theorem ret_int {k : IntKind} {a b : Int} (h : a = b) : Ending.returned (.int k a) = .returned (.int k b) := by rw [h]
theorem ret_bool {a b : Bool} (h : a = b) : Ending.returned (.bool a) = .returned (.bool b) := by rw [h]
theorem ret_str {a b : ByteArray} (h : a = b) : Ending.returned (.string a) = .returned (.string b) := by rw [h]
theorem ret_num {a b : Int} {c d : Bool} (h : a = b) (k : c = d) : Ending.returned (.tuple #[.int .i64 a, .bool c]) = .returned (.tuple #[.int .i64 b, .bool d]) := by rw [h, k]

/-- string(b) of a row of bytes just made. -/
theorem conv_new (w : World) (xs : List Int) (cap : Nat) (o : Obj) (hc : ∀ i, i < xs.length → (w.alloc o).cell? ⟨w.heap.size, i, none⟩ = some (.int .u8 (xs.getD i 0))) :
    (convert 38 9 (.slice (some ⟨w.heap.size, 0, none⟩) xs.length cap)).run Tryz.prog (w.alloc o) = .ok (.string (strOfNums xs)) (w.alloc o) :=
  run_convert_bytes_arg (w.alloc o) 38 5 Tryz.underlying38 Tryz.underlying5 w.heap.size 0 xs.length cap xs rfl (fun i hi => by rw [Nat.zero_add]; exact hc i hi) 9 Tryz.underlying9

theorem conv_one (w : World) (n : Int) :
    (convert 38 9 (.slice (some ⟨w.heap.size, 0, none⟩) 1 1)).run Tryz.prog (w.alloc (.cells #[.int .u8 n] 5)) = .ok (.string ⟨#[UInt8.ofNat n.toNat]⟩) (w.alloc (.cells #[.int .u8 n] 5)) :=
  conv_new w [n] 1 _ (fun i hi => by
    have : i = 0 := by simpa using hi
    subst this
    simp [go_sem])

set_option maxHeartbeats 400000 in
set_option maxRecDepth 100000 in
theorem rdigits_one (n : Nat) (w : World) (h : n < 10) :
    Calls Tryz.prog 29 #[.int .i64 n] w fun e w' => e = .returned (.string ⟨#[Tx.dg n]⟩) ∧ Below w.heap.size w w' := by
  have hcv := conv_one w (48 + n)
  have e0 : UInt8.ofNat (48 + (n : Int)).toNat = Tx.dg n := by rw [Tx.dg]; congr 1
  rw [e0] at hcv
  clear e0
  go_enter Tryz.func29, Tryz.ntmps29
  go_wp2_with fail
  go_ret
  exact ⟨rfl, (Below.refl _ _).alloc (Nat.le_refl _) _⟩

set_option maxHeartbeats 400000 in
set_option maxRecDepth 100000 in
theorem rdigits_fuel : ∀ (f n : Nat) (w : World), n < 10 ^ (f + 1) → f ≤ 16 →
    Calls Tryz.prog 29 #[.int .i64 n] w fun e w' => e = .returned (.string (Tx.str (Tx.digF (f + 1) n))) ∧ Below w.heap.size w w'
  | 0, n, w, h, _ => by
    have h10 : n < 10 := by simpa using h
    have := rdigits_one n w h10
    simpa [Tx.digF, h10, Tx.str] using this
  | f + 1, n, w, h, hf => by
    by_cases h10 : n < 10
    · have := rdigits_one n w h10
      simpa [Tx.digF, h10, Tx.str] using this
    · have hq : n / 10 < 10 ^ (f + 1) := by rw [Nat.pow_succ] at h; omega
      have hb : n < 1000000000000000000 := by
        have h2 : (10 : Nat) ^ (f + 1 + 1) ≤ 10 ^ 18 := Nat.pow_le_pow_right (by omega) (by omega)
        have e : (10 : Nat) ^ 18 = 1000000000000000000 := by decide
        exact Nat.lt_of_lt_of_le h (e ▸ h2)
      have e1 : ((n / 10 : Nat) : Int) = (n : Int) / 10 := by omega
      have e2 : ((n % 10 : Nat) : Int) = (n : Int) % 10 := by omega
      have IH : ∀ w, Calls Tryz.prog 29 #[.int .i64 ((n : Int) / 10)] w fun e w' => e = .returned (.string (Tx.str (Tx.digF (f + 1) (n / 10)))) ∧ Below w.heap.size w w' := fun w => e1 ▸ rdigits_fuel f (n / 10) w hq (by omega)
      have IG : ∀ w, Calls Tryz.prog 29 #[.int .i64 ((n : Int) % 10)] w fun e w' => e = .returned (.string ⟨#[Tx.dg (n % 10)]⟩) ∧ Below w.heap.size w w' := fun w => e2 ▸ rdigits_one (n % 10) w (by omega)
      have HIH : Hid _ := IH
      have HIG : Hid _ := IG
      have HE : Hid (Tx.digF (f + 2) n = Tx.digF (f + 1) (n / 10) ++ [Tx.dg (n % 10)]) := by show Tx.digF (f + 2) n = _; rw [Tx.digF, if_neg h10]
      have hl : (Tx.str (Tx.digF (f + 1) (n / 10))).size ≤ 17 := by rw [Tx.str_size]; exact Nat.le_trans (Tx.digF_len _ _) (by omega)
      clear h hq e1 e2 IH IG
      go_enter Tryz.func29, Tryz.ntmps29
      go_wp2_with fail
      refine (HIH.out _).mono ?_
      rintro e w1 ⟨rfl, hb1⟩
      go_wp2_with fail
      refine (HIG.out _).mono ?_
      rintro e w2 ⟨rfl, hb2⟩
      go_wp2_with fail
      go_ret
      exact ⟨ret_str (by rw [HE.out]; exact Tx.str_app _ [_]), hb1.trans (hb2.mono hb1.size)⟩

/-- Of a number its digits. -/
theorem rdigits_any (n : Int) (w : World) (h0 : 0 ≤ n) (h : n < 100000000000000000) :
    Calls Tryz.prog 29 #[.int .i64 n] w fun e w' => e = .returned (.string (Tx.str (Lib.itoa n))) ∧ Below w.heap.size w w' := by
  obtain ⟨k, rfl⟩ := Int.eq_ofNat_of_zero_le h0
  have hk : k < 10 ^ (16 + 1) := by simp; omega
  rw [itoa_nat, ← dec_digF 16 k hk]
  exact rdigits_fuel 16 k w hk (by omega)

/-- Is a byte a digit, a letter or -? -/
def digB (n : Int) : Bool := decide (48 ≤ n) && decide (n ≤ 57)
def letB (n : Int) : Bool := (decide (97 ≤ n) && decide (n ≤ 122)) || (decide (65 ≤ n) && decide (n ≤ 90)) || (n == 45)
theorem isDig_eq (c : UInt8) : Tx.isDig c = digB (c.toNat : Int) := rfl
theorem isLet_eq (c : UInt8) : isLet c = letB (c.toNat : Int) := by
  unfold isLet letB
  congr 1

set_option maxHeartbeats 400000 in
theorem within_any (a n : Int) (w : World) (h1 : 1 ≤ n) (h2 : n ≤ 4611686018427387904) (h3 : -9223372036854775808 ≤ a) (h4 : a ≤ 9223372036854775807) :
    Calls Tryz.prog 63 #[.int .i64 a, .int .i64 n] w fun e w' => e = .returned (.int .i64 (a % n)) ∧ w' = w := by
  obtain ⟨hb1, hb2⟩ := Tx.tmod_bd a n h1
  go_enter Tryz.func63, Tryz.ntmps63
  go_wp2
  · go_ret
    exact ⟨ret_int (Tx.tmod_dn a n h1 (by assumption)), rfl⟩
  · go_ret
    exact ⟨ret_int (Tx.tmod_up a n h1 (by assumption)), rfl⟩

/-- A number from 0 to n - 1. -/
theorem within_nat (a n : Int) (w : World) (h1 : 1 ≤ n) (h2 : n ≤ 4611686018427387904) (h3 : -9223372036854775808 ≤ a) (h4 : a ≤ 9223372036854775807) :
    Calls Tryz.prog 63 #[.int .i64 a, .int .i64 n] w fun e w' => ∃ k : Nat, e = .returned (.int .i64 k) ∧ (k : Int) < n ∧ Hid ((k : Int) = a % n) ∧ w' = w := by
  refine (within_any a n w h1 h2 h3 h4).mono ?_
  rintro e w' ⟨rfl, rfl⟩
  have b1 := Int.emod_nonneg a (b := n) (by omega)
  have b2 := Int.emod_lt_of_pos a (b := n) (by omega)
  exact ⟨(a % n).toNat, by rw [Int.toNat_of_nonneg b1], by omega, Int.toNat_of_nonneg b1, rfl⟩

end Go.Proofs.YtnmmhihfnphjeaaGreatDoor

namespace Go.Pa
set_option linter.unusedVariables false
open Go.Lib Go.Tx Go.Vr

theorem right_slash (s w : Bs) (h : ∀ c ∈ w, c ≠ 47) : (sw (s ++ 47 :: w)).all wOk = ((sw s).all wOk && wOk w) := by
  rw [sw_app, sw_one w h, List.all_append]
  simp
theorem wOk_noslash {w : Bs} (h : wOk w = true) : ∀ c ∈ w, c ≠ 47 := by
  unfold wOk at h
  rw [Bool.and_eq_true, List.all_eq_true] at h
  intro c hc e
  subst e
  have := h.2 47 hc
  exact absurd this (by decide)

/-- The words that the law takes. -/
def pw : List Bs := [[97], [98], [97, 46, 98], [99, 45, 100], [118, 50], [118, 51], [118, 49], [118, 48, 50], [95], [108, 105, 98], [118, 50, 48]]
def pwA (j : Nat) : Bs := pw.getD j []
theorem pw_ok : ∀ i, i < 11 → wOk (pwA i) = true ∧ (pwA i).length ≤ 3 := by
  have h : ((List.range 11).all fun i => wOk (pwA i) && decide ((pwA i).length ≤ 3)) = true := by decide +kernel
  intro i hi
  have := List.all_eq_true.1 h i (List.mem_range.2 hi)
  rw [Bool.and_eq_true, decide_eq_true_eq] at this
  exact this
/-- So many words more. -/
def mkLoop : Nat → Nat → Bs → Bs
  | 0, _, s => s
  | i + 1, k, s => mkLoop i (k / 4) (s ++ 47 :: pwA (k / 4 % 11))
def mkN (k : Nat) : Bs := mkLoop (k / 11 % 4) (k / 11) (pwA (k % 11))
/-- The path of a number. -/
def mkP (n : Int) : Bs := mkN (n % 1099511627776).toNat
theorem mkLoop_ok : ∀ (i k : Nat) (s : Bs), (sw s).all wOk = true → (sw (mkLoop i k s)).all wOk = true ∧ (mkLoop i k s).length ≤ s.length + 4 * i
  | 0, k, s, h => ⟨h, by simp [mkLoop]⟩
  | i + 1, k, s, h => by
    obtain ⟨h1, h2⟩ := pw_ok (k / 4 % 11) (Nat.mod_lt _ (by omega))
    obtain ⟨h3, h4⟩ := mkLoop_ok i (k / 4) (s ++ 47 :: pwA (k / 4 % 11)) (by rw [right_slash _ _ (wOk_noslash h1), h, h1]; rfl)
    refine ⟨h3, Nat.le_trans h4 ?_⟩
    rw [List.length_append, List.length_cons]
    omega
theorem mkN_ok (k : Nat) : (sw (mkN k)).all wOk = true ∧ (mkN k).length ≤ 15 := by
  obtain ⟨h1, h2⟩ := pw_ok (k % 11) (Nat.mod_lt _ (by omega))
  obtain ⟨h3, h4⟩ := mkLoop_ok (k / 11 % 4) (k / 11) (pwA (k % 11)) (by rw [sw_one _ (wOk_noslash h1)]; simp [h1])
  have : k / 11 % 4 < 4 := Nat.mod_lt _ (by omega)
  exact ⟨h3, by unfold mkN; omega⟩
theorem mkP_ok (n : Int) : right (mkP n) = true ∧ 1 ≤ (mkP n).length ∧ (mkP n).length ≤ 15 := by
  obtain ⟨h1, h2⟩ := mkN_ok (n % 1099511627776).toNat
  have hr : right (mkP n) = true := by
    unfold right mkP
    rw [h1, decide_eq_true (by omega)]; rfl
  exact ⟨hr, (right_short hr).1, h2⟩

end Go.Pa

namespace Go.Proofs.YtnmmhihfnphjeaaGreatDoor
set_option linter.unusedSimpArgs false
set_option linter.unusedVariables false
open Go.RowKit Go.Vr Go.Sort Go.Tx Go.Pa
attribute [local go_sem] setCellDrewN allocDrewN

theorem byte_eq (c : UInt8) (d : UInt8) (h : ((c.toNat : Int) == (d.toNat : Int)) = true) : c = d := UInt8.toNat_inj.1 (by have := beq_iff_eq.1 h; omega)
theorem byte_ne (c : UInt8) (d : UInt8) (h : ((c.toNat : Int) == (d.toNat : Int)) = false) : c ≠ d := by rintro rfl; simp at h

/-- How far the words of a text are told. -/
def SInv (s : ByteArray) (k f : Nat) (os : List Bs) : Prop := (k ≤ s.size ∧ sw (s.data.toList.take k) = os ++ [(s.data.toList.take k).drop f]) ∨ (k = s.size + 1 ∧ sw s.data.toList = os)
theorem SInv.start (s : ByteArray) : SInv s 0 0 [] := .inl ⟨Nat.zero_le _, rfl⟩
theorem piece_list (s : ByteArray) (f k : Nat) : (s.extract f k).data.toList = (s.data.toList.take k).drop f := by
  rw [Lib.extract_data, List.drop_take]
theorem SInv.dot {s : ByteArray} {k f : Nat} {os : List Bs} (h : SInv s k f os) (hlt : k < s.size) (hc : s[k] = 47) : SInv s (k + 1) (k + 1) (os ++ [(s.extract f k).data.toList]) := by
  rcases h with ⟨_, h⟩ | ⟨h, _⟩
  · refine .inl ⟨by omega, ?_⟩
    have e : (s.data.toList.take k ++ [47]).drop (k + 1) = [] := List.drop_of_length_le (by simp; omega)
    rw [take_snoc s k hlt, hc, sw_app _ _, h, piece_list, e]
    rfl
  · omega
theorem SInv.last {s : ByteArray} {f : Nat} {os : List Bs} (h : SInv s s.size f os) : SInv s (s.size + 1) (s.size + 1) (os ++ [(s.extract f s.size).data.toList]) := by
  rcases h with ⟨_, h⟩ | ⟨h, _⟩
  · refine .inr ⟨rfl, ?_⟩
    rw [take_all s s.size (Nat.le_refl _)] at h
    rw [h, piece_list, take_all s s.size (Nat.le_refl _)]
  · omega
theorem SInv.more {s : ByteArray} {k f : Nat} {os : List Bs} (h : SInv s k f os) (hf : f ≤ k) (hlt : k < s.size) (hc : s[k] ≠ 47) : SInv s (k + 1) f os := by
  rcases h with ⟨_, h⟩ | ⟨h, _⟩
  · refine .inl ⟨by omega, ?_⟩
    rw [take_snoc s k hlt, sw_snoc _ hc _ _ _ h]
    rw [List.drop_append_of_le_length (by simp; omega)]
  · omega
theorem SInv.done {s : ByteArray} {k f : Nat} {os : List Bs} (h : SInv s k f os) (hk : s.size < k) : sw s.data.toList = os := by
  rcases h with ⟨h, _⟩ | ⟨_, h⟩
  · omega
  · exact h

end Go.Proofs.YtnmmhihfnphjeaaGreatDoor

namespace Go.Proofs.YtnmmhihfnphjeaaGreatDoor
set_option linter.unusedVariables false
open Go.RowKit Go.Vr

theorem all_take_succ (p : UInt8 → Bool) (s : ByteArray) (k : Nat) (h : k < s.size) : (s.data.toList.take (k + 1)).all p = ((s.data.toList.take k).all p && p s[k]) := by rw [Tx.take_snoc s k h]; simp [List.all_append]
theorem all_not (p : UInt8 → Bool) (s : ByteArray) (k : Nat) (h : k < s.size) (hb : p s[k] = false) : s.data.toList.all p = false := by
  have hm : s[k] ∈ s.data.toList := by
    have : s[k] = s.data.toList[k]'(by simpa using h) := rfl
    rw [this]; exact List.getElem_mem _
  rw [List.all_eq_false]
  exact ⟨_, hm, by simp [hb]⟩
theorem isEmpty_eq (s : ByteArray) : s.data.toList.isEmpty = decide (s.size = 0) := by
  have := Tx.len_eq s
  cases e : s.data.toList with
  | nil => rw [e] at this; simp at this; simp [← this]
  | cons c l => rw [e] at this; simp only [List.length_cons] at this; rw [decide_eq_false (by omega)]; rfl
theorem digs_eq (s : ByteArray) : digs s.data.toList = (decide (s.size ≠ 0) && s.data.toList.all Tx.isDig) := by
  unfold digs
  rw [isEmpty_eq]; simp
theorem toList_data (s : ByteArray) : s.toList = s.data.toList := by obtain ⟨⟨l⟩⟩ := s; simp
theorem empty_eq (s : ByteArray) : s.toList.isEmpty = decide (s.size = 0) := by rw [toList_data, isEmpty_eq]

end Go.Proofs.YtnmmhihfnphjeaaGreatDoor

namespace Go.Pa
set_option linter.unusedVariables false
open Go.Lib Go.Tx Go.Vr

theorem last_slash (s : ByteArray) : (lastIndexByte s 47 = -1 ∧ lastS s.data.toList = none) ∨ ∃ i : Nat, i < s.size ∧ lastIndexByte s 47 = i ∧ lastS s.data.toList = some ((s.extract 0 i).data.toList, (s.extract (i + 1) s.size).data.toList) := by
  have hl := len_eq s
  rcases lastIdx_spec s 47 s.size with ⟨e, hn⟩ | ⟨i, hi, e, hc, hn⟩
  · refine .inl ⟨e, lastS_of_none ?_⟩
    intro c hc h
    subst h
    obtain ⟨j, hj, e2⟩ := List.getElem_of_mem hc
    refine hn j (by omega) ?_
    rw [get_data s j hj, e2]; rfl
  · refine .inr ⟨i, hi, e, ?_⟩
    have hil : i < s.data.toList.length := by omega
    have hci : s.data.toList[i] = 47 := by
      rw [get_data s i hil] at hc
      exact UInt8.toNat_inj.1 (by show _ = 47; omega)
    have hs : s.data.toList = s.data.toList.take i ++ 47 :: s.data.toList.drop (i + 1) := by
      have := List.take_append_drop i s.data.toList
      rw [List.drop_eq_getElem_cons hil, hci] at this
      exact this.symm
    have e1 : (s.extract 0 i).data.toList = s.data.toList.take i := by rw [Lib.extract_data]; simp
    have e2 : (s.extract (i + 1) s.size).data.toList = s.data.toList.drop (i + 1) := by
      rw [Lib.extract_data, List.take_of_length_le]
      rw [List.length_drop]; omega
    rw [e1, e2]
    conv => lhs; rw [hs]
    refine lastS_app _ ?_ _
    intro c hc2 h
    subst h
    obtain ⟨j, hj, e3⟩ := List.getElem_of_mem hc2
    rw [List.length_drop] at hj
    rw [List.getElem_drop] at e3
    refine hn (i + 1 + j) (by omega) (by omega) ?_
    rw [get_data s (i + 1 + j) (by omega), e3]; rfl

theorem okNum_len {l : Bs} (h : okNum l = true) : l.length ≤ 9 := by
  unfold okNum at h
  simp only [Bool.and_eq_true, decide_eq_true_eq] at h
  exact h.1.1.2
theorem maj_atoi {d : Bs} {n : Int} (h : majW (118 :: d) = some n) : d = itoa n ∧ atoiAll d = .ok n := by
  obtain ⟨h1, h2, h3, h4⟩ := majW_some h
  obtain rfl : d = itoa n := by injection h1
  obtain ⟨_, h6, h7, h8⟩ := itoa_ok n (by omega) (by omega)
  exact ⟨rfl, by rw [num_digits _ h8 (by have := okNum_len h4; omega) h7, h6]⟩
theorem maj_ok {d : Bs} {v : Int} (h : atoiAll d = .ok v) : majW (118 :: d) = if 2 ≤ v ∧ v ≤ 999999 ∧ itoa v = d then some v else none := by
  by_cases c : 2 ≤ v ∧ v ≤ 999999 ∧ itoa v = d
  · rw [if_pos c, ← c.2.2]
    exact majW_of c.1 c.2.1
  · rw [if_neg c]
    cases e : majW (118 :: d) with
    | none => rfl
    | some n =>
      obtain ⟨h1, h2⟩ := maj_atoi e
      rw [h] at h2
      obtain rfl : v = n := by injection h2
      obtain ⟨_, h3, h4, _⟩ := majW_some e
      exact absurd ⟨h3, h4, h1.symm⟩ c
theorem maj_err {d : Bs} (h : ∀ v, atoiAll d ≠ .ok v) : majW (118 :: d) = none := by
  cases e : majW (118 :: d) with
  | none => rfl
  | some n => exact absurd (maj_atoi e).2 (h n)
theorem maj_novee {w : Bs} (h : hasPrefix w [118] = false) : majW w = none := by
  cases w with
  | nil => rfl
  | cons c d =>
    unfold majW
    refine if_neg ?_
    rintro ⟨rfl, _⟩
    exact absurd h (by unfold hasPrefix; simp)
theorem vee {w : Bs} (h : hasPrefix w [118] = true) : w = 118 :: trimPrefix w [118] := by
  cases w with
  | nil => exact absurd h (by decide)
  | cons c d =>
    have h2 : ((118 : UInt8) == c && List.isPrefixOf [] d) = true := h
    have hc : c = 118 := by rw [Bool.and_eq_true] at h2; exact (beq_iff_eq.1 h2.1).symm
    subst hc
    unfold trimPrefix
    rw [h]; rfl

theorem inside_self (a : Bs) : inside a a = true := (inside_iff a a).2 (.inl rfl)
theorem inside_more (a b : Bs) : inside (a ++ 47 :: b) a = true := (inside_iff _ _).2 (.inr ⟨b, rfl⟩)
theorem inside_less (a b : Bs) : inside a (a ++ 47 :: b) = false := by
  cases e : inside a (a ++ 47 :: b) with
  | false => rfl
  | true =>
    have := inside_len e
    rw [List.length_append, List.length_cons] at this
    omega
theorem inside_x (a : Bs) : inside (a ++ [120]) a = false := by
  cases e : inside (a ++ [120]) a with
  | false => rfl
  | true =>
    rcases (inside_iff _ _).1 e with h | ⟨t, h⟩
    · have := congrArg List.length h
      simp at this
    · have := List.append_cancel_left h
      simp at this
theorem fits_self (s : Bs) : fits s (maj s).2 = true := by unfold fits; simp
theorem fits_one (s : Bs) : fits s 1 = ((maj s).2 == 0) := by
  obtain ⟨_, _, h⟩ := maj_nonneg s
  unfold fits
  have : ((maj s).2 == 1) = false := by simpa using h
  rw [this]; simp
theorem maj_y (x : Bs) : maj (x ++ [47, 121]) = (x ++ [47, 121], 0) := by
  unfold maj
  rw [show x ++ [47, 121] = x ++ 47 :: [121] from rfl, lastS_app [121] (by decide) x]
  rfl
theorem may_xy (root : Bs) (a : Int) : may root a (root ++ [120, 47, 121]) = false := by
  have e : root ++ [120, 47, 121] = (root ++ [120]) ++ [47, 121] := by simp
  unfold may
  rw [e, maj_y, ← e]
  cases h : inside root (root ++ [120, 47, 121]) with
  | false => simp
  | true =>
    have := inside_len h
    simp at this
    omega
theorem may_self {root : Bs} {a : Int} (h : (maj root).2 = 0) (h0 : a = 0 ∨ a = 1) : may root a root = true := by
  unfold may fits
  rw [maj_zero h, inside_self, h]
  rcases h0 with rfl | rfl <;> rfl
theorem more_found {root : Bs} {a : Int} (l : List Bs) (h : (maj root).2 = 0) (h0 : a = 0 ∨ a = 1) : find root a (l ++ [root]) = some root := by
  obtain ⟨q, h1, h2, h3⟩ := find_may root a l root (may_self h h0)
  rw [h1]
  have h4 := cmpF_len h2
  rw [maj_zero h] at h4
  unfold may at h3
  rw [Bool.and_eq_true] at h3
  obtain ⟨h5, h6⟩ := h3
  have h7 : root = (maj q).1 := by
    rcases (inside_iff _ _).1 h6 with h7 | ⟨t, h7⟩
    · exact h7
    · have := congrArg List.length h7
      rw [List.length_append, List.length_cons] at this
      omega
  have h8 : (maj q).2 = 0 := by
    obtain ⟨g1, g2, g3⟩ := maj_nonneg q
    unfold fits at h5
    simp only [Bool.or_eq_true, Bool.and_eq_true, beq_iff_eq] at h5
    omega
  rw [h7, maj_zero h8]
theorem main_len {root : Bs} (h : (maj root).2 ≠ 0) : (maj root).1 ≠ root := by
  intro e
  have := congrArg List.length (maj_more h)
  rw [List.length_append, e] at this
  simp at this

end Go.Pa

namespace Go.Proofs.YtnmmhihfnphjeaaGreatDoor
set_option linter.unusedSimpArgs false
set_option linter.unusedVariables false
open Go.RowKit Go.Vr Go.Sort Go.Tx Go.Pa
attribute [local go_sem] setCellDrewN allocDrewN

theorem sw_count : ∀ (l : Bs), (sw l).length ≤ l.length + 1 := by
  intro l
  induction l with
  | nil => simp [sw]
  | cons c l ih =>
    by_cases h : c = 47
    · subst h
      rw [sw_slash]; simp; omega
    · cases e : sw l with
      | nil => exact absurd e (sw_ne l)
      | cons v vs =>
        rw [sw_cons h e]
        rw [e] at ih
        simp at ih ⊢; omega
theorem sgs_when (n : Nat) (h : n < 256) : sgs (UInt8.ofNat n) = true → ((97 ≤ (n : Int) ∧ (n : Int) ≤ 122) ∨ (48 ≤ (n : Int) ∧ (n : Int) ≤ 57) ∨ (n : Int) = 46 ∨ (n : Int) = 45 ∨ (n : Int) = 95 ∨ (n : Int) = 47) := by
  have key : ∀ m : Fin 256, sgs (UInt8.ofNat m.val) = true → ((97 ≤ m.val ∧ m.val ≤ 122) ∨ (48 ≤ m.val ∧ m.val ≤ 57) ∨ m.val = 46 ∨ m.val = 45 ∨ m.val = 95 ∨ m.val = 47) := by decide +kernel
  intro hs
  have := key ⟨n, h⟩ hs
  simp only at this
  omega
theorem sgs_not (n : Nat) (h : n < 256) : sgs (UInt8.ofNat n) = false → (((n : Int) < 48) ∨ (57 < (n : Int) ∧ (n : Int) < 97) ∨ 122 < (n : Int)) ∧ (n : Int) ≠ 46 ∧ (n : Int) ≠ 45 ∧ (n : Int) ≠ 95 ∧ (n : Int) ≠ 47 := by
  have key : ∀ m : Fin 256, sgs (UInt8.ofNat m.val) = false → ((m.val < 48) ∨ (57 < m.val ∧ m.val < 97) ∨ 122 < m.val) ∧ m.val ≠ 46 ∧ m.val ≠ 45 ∧ m.val ≠ 95 ∧ m.val ≠ 47 := by decide +kernel
  intro hs
  have := key ⟨n, h⟩ hs
  simp only at this
  omega
theorem of_nat (c : UInt8) : UInt8.ofNat c.toNat = c := by simp
/-- As the reference asks, word by word. -/
theorem bad_empty (x : Bs) (h : x = []) : (!badW x) = false := by subst h; rfl
theorem bad_two (x : Bs) (h : x.isEmpty = false) (h1 : (x == [46]) = false) (h2 : (x == [46, 46]) = false) : (!badW x) = true := by
  unfold badW
  have : (x == []) = false := by cases x with | nil => exact absurd h (by decide) | cons a b => rfl
  rw [this, h1, h2]; rfl

theorem inside_cut {s r : Bs} (h : r.length < s.length) : inside s r = (s.take (r.length + 1) == r ++ [47]) := by
  rw [Bool.eq_iff_iff, inside_iff, beq_iff_eq]
  constructor
  · rintro (rfl | ⟨t, rfl⟩)
    · omega
    · have e : r ++ 47 :: t = (r ++ [47]) ++ t := by simp
      rw [e, List.take_left' (by simp)]
  · intro e
    refine .inr ⟨s.drop (r.length + 1), ?_⟩
    have := List.take_append_drop (r.length + 1) s
    rw [e] at this
    rw [← this]; simp
theorem inside_short {s r : Bs} (h : s ≠ r) (hl : ¬ r.length < s.length) : inside s r = false := by
  cases e : inside s r with
  | false => rfl
  | true =>
    rcases (inside_iff s r).1 e with h2 | ⟨t, h2⟩
    · exact absurd h2 h
    · rw [h2] at hl; simp at hl

end Go.Proofs.YtnmmhihfnphjeaaGreatDoor
