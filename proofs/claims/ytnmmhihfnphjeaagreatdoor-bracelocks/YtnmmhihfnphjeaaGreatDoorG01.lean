/-
  Plain mathematics of bytes, places, numbers, quotes: nothing of the program is imported.
-/
import Derived.RowKit
import Derived.Below

namespace Go.Tx
set_option linter.unusedVariables false

/-- Is a byte one of 32 to 126? -/
def prB (n : Int) : Bool := decide (32 ≤ n) && decide (n ≤ 126)
/-- Is a byte plain: 9, 10, 32 to 126? -/
def plB (n : Int) : Bool := (n == 9) || (n == 10) || prB n
/-- Are all bytes of a text plain? -/
def plain (l : List UInt8) : Bool := l.all fun c => plB (c.toNat : Int)

/-- The text of a row of bytes. -/
def str (l : List UInt8) : ByteArray := ⟨l.toArray⟩
theorem str_list (l : List UInt8) : (str l).data.toList = l := rfl
theorem str_size (l : List UInt8) : (str l).size = l.length := by simp [str, ByteArray.size]
theorem ba_app (x y : ByteArray) : (x ++ y).data.toList = x.data.toList ++ y.data.toList := by simp
theorem ba_ext {x y : ByteArray} (h : x.data.toList = y.data.toList) : x = y := by
  cases x; cases y; simp at h; rw [h]
theorem str_app (a b : List UInt8) : str a ++ str b = str (a ++ b) := ba_ext (by rw [ba_app]; rfl)
theorem str_of (s : ByteArray) : str s.data.toList = s := ba_ext rfl

theorem len_eq (s : ByteArray) : s.data.toList.length = s.size := by simp

theorem take_snoc (s : ByteArray) (k : Nat) (h : k < s.size) : s.data.toList.take (k + 1) = s.data.toList.take k ++ [s[k]] := by
  rw [List.take_succ_eq_append_getElem (by simpa using h)]; rfl

theorem plain_snoc (l : List UInt8) (c : UInt8) : plain (l ++ [c]) = (plain l && plB (c.toNat : Int)) := by simp [plain, List.all_append]

theorem plain_take_false (s : ByteArray) (k : Nat) (h : k < s.size) (hb : plB ((s[k]).toNat : Int) = false) : plain s.data.toList = false := by
  have hm : s[k] ∈ s.data.toList := by
    have : s[k] = s.data.toList[k]'(by simpa using h) := rfl
    rw [this]; exact List.getElem_mem _
  unfold plain
  rw [List.all_eq_false]
  exact ⟨_, hm, by simp [hb]⟩

theorem plain_more (s : ByteArray) (k : Nat) (h : k < s.size) (hp : RowKit.Hid (plain (s.data.toList.take k) = true)) (hb : plB ((s[k]).toNat : Int) = true) : RowKit.Hid (plain (s.data.toList.take (k + 1)) = true) := by
  show plain _ = true
  rw [take_snoc s k h, plain_snoc, hp.out, hb]; rfl

theorem take_all (s : ByteArray) (k : Nat) (h : s.size ≤ k) : s.data.toList.take k = s.data.toList := List.take_of_length_le (by simpa using h)

theorem tmod_bd (a n : Int) (hn : 1 ≤ n) : -n < a.tmod n ∧ a.tmod n < n :=
  ⟨Int.lt_tmod_of_pos a (by omega), Int.tmod_lt_of_pos a (by omega)⟩

theorem tmod_up (a n : Int) (hn : 1 ≤ n) (h : 0 ≤ a.tmod n) : a.tmod n = a % n := by
  have h1 := Int.tmod_eq_emod (a := a) (b := n)
  have h2 := Int.emod_lt_of_pos a (b := n) (by omega)
  by_cases hc : 0 ≤ a ∨ n ∣ a
  · rw [if_pos hc] at h1; omega
  · rw [if_neg hc] at h1; omega

theorem tmod_dn (a n : Int) (hn : 1 ≤ n) (h : a.tmod n < 0) : a.tmod n + n = a % n := by
  have h1 := Int.tmod_eq_emod (a := a) (b := n)
  have h2 := Int.emod_lt_of_pos a (b := n) (by omega)
  have h3 := Int.emod_nonneg a (b := n) (by omega)
  by_cases hc : 0 ≤ a ∨ n ∣ a
  · rw [if_pos hc] at h1; omega
  · rw [if_neg hc] at h1; omega

/-- A row of digits' number. -/
def numVal (l : List UInt8) : Int := l.foldl (fun n c => n * 10 + ((c.toNat : Int) - 48)) 0
def isDig (c : UInt8) : Bool := decide (48 ≤ (c.toNat : Int)) && decide ((c.toNat : Int) ≤ 57)
/-- 1 to 9 digits, the first no 0, if there are several. -/
def okNum (l : List UInt8) : Bool := decide (1 ≤ l.length) && decide (l.length ≤ 9) && !(decide (1 < l.length) && (l.head? == some 48)) && l.all isDig
def numR (l : List UInt8) : Int := if okNum l = true then numVal l else 0

theorem numVal_snoc (l : List UInt8) (c : UInt8) : numVal (l ++ [c]) = numVal l * 10 + ((c.toNat : Int) - 48) := by simp [numVal]
theorem numVal_take (s : ByteArray) (k : Nat) (h : k < s.size) : numVal (s.data.toList.take (k + 1)) = numVal (s.data.toList.take k) * 10 + (((s[k]).toNat : Int) - 48) := by rw [take_snoc s k h, numVal_snoc]

theorem digs_take (s : ByteArray) (k : Nat) (h : k < s.size) : (s.data.toList.take (k + 1)).all isDig = ((s.data.toList.take k).all isDig && isDig s[k]) := by rw [take_snoc s k h]; simp [List.all_append]

theorem numVal_bd (s : ByteArray) : ∀ k, k ≤ s.size → (s.data.toList.take k).all isDig = true → 0 ≤ numVal (s.data.toList.take k) ∧ numVal (s.data.toList.take k) < 10 ^ k
  | 0, _, _ => by simp [numVal]
  | k + 1, h, hd => by
    rw [digs_take s k (by omega)] at hd
    simp only [Bool.and_eq_true] at hd
    have ih := numVal_bd s k (by omega) hd.1
    have hc := hd.2
    simp only [isDig, Bool.and_eq_true, decide_eq_true_eq] at hc
    rw [numVal_take s k (by omega), Int.pow_succ]
    omega

theorem numVal_bd9 (s : ByteArray) (k : Nat) (h : k ≤ s.size) (h9 : k ≤ 9) (hd : (s.data.toList.take k).all isDig = true) : 0 ≤ numVal (s.data.toList.take k) ∧ numVal (s.data.toList.take k) ≤ 999999999 := by
  have hb := numVal_bd s k h hd
  have hp : ((10 ^ k : Nat) : Int) ≤ ((10 ^ 9 : Nat) : Int) := Int.ofNat_le.2 (Nat.pow_le_pow_right (by omega) h9)
  rw [Int.natCast_pow] at hp
  have e : ((10 : Nat) : Int) = 10 := rfl
  rw [e] at hp
  omega

theorem notDig_false (s : ByteArray) (k : Nat) (h : k < s.size) (hb : isDig s[k] = false) : s.data.toList.all isDig = false := by
  have hm : s[k] ∈ s.data.toList := by
    have : s[k] = s.data.toList[k]'(by simpa using h) := rfl
    rw [this]; exact List.getElem_mem _
  rw [List.all_eq_false]
  exact ⟨_, hm, by simp [hb]⟩

theorem head_eq (s : ByteArray) (h : 0 < s.size) : s.data.toList.head? = some s[0] := by
  have e : s.data.toList ≠ [] := by intro e; have := congrArg List.length e; rw [len_eq] at this; simp at this; subst this; simp at h
  rw [List.head?_eq_some_head e]; congr 1; rw [List.head_eq_getElem]; rfl

theorem okNum_short (s : ByteArray) (h : s.size < 1) : okNum s.data.toList = false := by
  have e : s.data.toList.length = s.size := by simp
  have hd : decide (1 ≤ s.size) = false := decide_eq_false (by omega)
  unfold okNum; rw [e, hd]; rfl
theorem okNum_long (s : ByteArray) (h : 9 < s.size) : okNum s.data.toList = false := by
  have e : s.data.toList.length = s.size := by simp
  simp [okNum, e]; omega
theorem okNum_zero (s : ByteArray) (h : 1 < s.size) (h0 : ((s[0]).toNat : Int) = 48) : okNum s.data.toList = false := by
  have e : s.data.toList.length = s.size := by simp
  have e0 : s[0] = 48 := UInt8.toNat_inj.1 (by show _ = 48; omega)
  simp [okNum, e, head_eq s (by omega), h, e0]
theorem okNum_else (s : ByteArray) (h1 : 1 ≤ s.size) (h9 : s.size ≤ 9) (h : s.size = 1 ∨ ((s[0]).toNat : Int) ≠ 48) : okNum s.data.toList = s.data.toList.all isDig := by
  have e : s.data.toList.length = s.size := by simp
  have : (decide (1 < s.size) && (s.data.toList.head? == some 48)) = false := by
    rcases h with h | h
    · simp [h]
    · rw [head_eq s (by omega)]
      have : s[0] ≠ 48 := by intro e; apply h; rw [e]; rfl
      simp [this]
  unfold okNum
  rw [e, this]; simp [h1, h9]

/-- A digit's byte. -/
def dg (n : Nat) : UInt8 := UInt8.ofNat (48 + n)
/-- A number's digits. -/
def digF : Nat → Nat → List UInt8
  | 0, _ => []
  | f + 1, n => if n < 10 then [dg n] else digF f (n / 10) ++ [dg (n % 10)]

theorem digF_len : ∀ f n, (digF f n).length ≤ f
  | 0, _ => by simp [digF]
  | f + 1, n => by
    rw [digF]
    split
    · simp
    · have := digF_len f (n / 10); simp; omega

/-- The bytes that the statements' texts are of. -/
def sgs : List UInt8 := [10, 9, 32, 34, 92, 35, 47, 97, 98, 99, 110, 116, 58, 61, 45, 91, 93, 123, 125, 44, 46, 48, 49, 50, 51, 118, 120, 126, 94, 42, 124, 60, 62, 33, 95, 122, 121, 113]
def sg1 (z : Int) : UInt8 := sgs.getD (z % 38).toNat 0
/-- Any bytes, made plain. -/
def sg (l : List Int) : List UInt8 := l.map sg1

end Go.Tx
