/-
  The library's functions that package path calls, by the shelf's contracts, laid at this program.
  Plain mathematics of bytes, places, numbers, quotes: nothing of the program is imported.
  Slices of texts: those that are there, those that the call owns; append.
  Plain mathematics of digits: a number's digits are it.
-/
import Derived.Test.YtnmmhihfnphjeaaDoorProg
import Derived.Shelf.Small.Strs
import Derived.Shelf.Small.Wraps
import Derived.Shelf.Strings.Cut
import Derived.Shelf.Strings.LastIndex
import Derived.Shelf.Strconv.Itoa3
import Derived.Shelf.Strconv.ErrVarAll
import Derived.RowKit
import Derived.Below
import Derived.Sort.EncStr
import Derived.Maps.AppendAt
import Derived.WalkKit
import Derived.WalkSpells
import Derived.WalkLawsBesides
import Derived.Laws.AppendOwnNone

namespace Go.Proofs.YtnmmhihfnphjeaaDoor
set_option linter.unusedVariables false
open Go.Shelf Go.RowKit

def Tryd.lays103_ren : Go.Shelf.Ren := ⟨fun | 103 => 76 | 206 => 92 | 210 => 93 | n => n, fun | 3 => 3 | 4 => 4 | 9 => 9 | 24 => 119 | n => n, fun | 1 => 0 | 17 => 1 | 18 => 2 | 19 => 3 | n => n⟩
theorem Tryd.lays103 : Go.Proofs.Lays.n103 Tryd.prog Tryd.lays103_ren := {
  mixed := by kernel_rfl
  f103 := Tryd.func76.trans (congrArg some (by kernel_rfl))
  f206 := Tryd.func92.trans (congrArg some (by kernel_rfl))
  f210 := Tryd.func93.trans (congrArg some (by kernel_rfl))
  t3 := Tryd.underlying3
  a3 := Tryd.isAgg3
  z3 := Tryd.sizeOf3
  v3 := Tryd.zeroValue3
  t4 := Tryd.underlying4
  a4 := Tryd.isAgg4
  z4 := Tryd.sizeOf4
  v4 := Tryd.zeroValue4
  t9 := Tryd.underlying9
  a9 := Tryd.isAgg9
  z9 := Tryd.sizeOf9
  v9 := Tryd.zeroValue9
  t24 := Tryd.underlying119
  a24 := Tryd.isAgg119
  z24 := Tryd.sizeOf119
  v24 := Tryd.zeroValue119 }
def Tryd.lays137_ren : Go.Shelf.Ren := ⟨fun | 137 => 83 | 217 => 84 | 266 => 99 | n => n, fun | 3 => 3 | 5 => 5 | 9 => 9 | n => n, fun | 1 => 0 | 17 => 1 | 18 => 2 | 19 => 3 | n => n⟩
theorem Tryd.lays137 : Go.Proofs.Lays.n137 Tryd.prog Tryd.lays137_ren := {
  mixed := by kernel_rfl
  f137 := Tryd.func83.trans (congrArg some (by kernel_rfl))
  f217 := Tryd.func84.trans (congrArg some (by kernel_rfl))
  f266 := Tryd.func99.trans (congrArg some (by kernel_rfl))
  t3 := Tryd.underlying3
  a3 := Tryd.isAgg3
  z3 := Tryd.sizeOf3
  v3 := Tryd.zeroValue3
  t5 := Tryd.underlying5
  a5 := Tryd.isAgg5
  z5 := Tryd.sizeOf5
  v5 := Tryd.zeroValue5
  t9 := Tryd.underlying9
  a9 := Tryd.isAgg9
  z9 := Tryd.sizeOf9
  v9 := Tryd.zeroValue9 }
def Tryd.lays145_ren : Go.Shelf.Ren := ⟨fun | 145 => 64 | 217 => 84 | 219 => 66 | 220 => 82 | 224 => 86 | 225 => 85 | 266 => 99 | 267 => 87 | 314 => 100 | n => n, fun | 3 => 3 | 4 => 4 | 5 => 5 | 9 => 9 | 46 => 129 | 51 => 137 | 59 => 109 | 146 => 140 | n => n, fun | 1 => 0 | 17 => 1 | 18 => 2 | 19 => 3 | n => n⟩
theorem Tryd.lays145 : Go.Proofs.Lays.n145 Tryd.prog Tryd.lays145_ren := {
  mixed := by kernel_rfl
  f145 := Tryd.func64.trans (congrArg some (by kernel_rfl))
  f217 := Tryd.func84.trans (congrArg some (by kernel_rfl))
  f219 := Tryd.func66.trans (congrArg some (by kernel_rfl))
  f220 := Tryd.func82.trans (congrArg some (by kernel_rfl))
  f224 := Tryd.func86.trans (congrArg some (by kernel_rfl))
  f225 := Tryd.func85.trans (congrArg some (by kernel_rfl))
  f266 := Tryd.func99.trans (congrArg some (by kernel_rfl))
  f267 := Tryd.func87.trans (congrArg some (by kernel_rfl))
  f314 := Tryd.func100.trans (congrArg some (by kernel_rfl))
  t3 := Tryd.underlying3
  a3 := Tryd.isAgg3
  z3 := Tryd.sizeOf3
  v3 := Tryd.zeroValue3
  t4 := Tryd.underlying4
  a4 := Tryd.isAgg4
  z4 := Tryd.sizeOf4
  v4 := Tryd.zeroValue4
  t5 := Tryd.underlying5
  a5 := Tryd.isAgg5
  z5 := Tryd.sizeOf5
  v5 := Tryd.zeroValue5
  t9 := Tryd.underlying9
  a9 := Tryd.isAgg9
  z9 := Tryd.sizeOf9
  v9 := Tryd.zeroValue9
  t46 := Tryd.underlying129
  a46 := Tryd.isAgg129
  z46 := Tryd.sizeOf129
  v46 := Tryd.zeroValue129
  t51 := Tryd.underlying137
  a51 := Tryd.isAgg137
  z51 := Tryd.sizeOf137
  v51 := Tryd.zeroValue137
  t59 := Tryd.underlying109
  a59 := Tryd.isAgg109
  z59 := Tryd.sizeOf109
  v59 := Tryd.zeroValue109
  t146 := Tryd.underlying140
  a146 := Tryd.isAgg140
  z146 := Tryd.sizeOf140
  v146 := Tryd.zeroValue140
  g1 := by kernel_rfl }
def Tryd.lays149_ren : Go.Shelf.Ren := ⟨fun | 149 => 41 | 222 => 52 | n => n, fun | 3 => 3 | 4 => 4 | 5 => 5 | 9 => 9 | n => n, fun | 1 => 0 | 17 => 1 | 18 => 2 | 19 => 3 | n => n⟩
theorem Tryd.lays149 : Go.Proofs.Lays.n149 Tryd.prog Tryd.lays149_ren := {
  mixed := by kernel_rfl
  f149 := Tryd.func41.trans (congrArg some (by kernel_rfl))
  f222 := Tryd.func52.trans (congrArg some (by kernel_rfl))
  t3 := Tryd.underlying3
  a3 := Tryd.isAgg3
  z3 := Tryd.sizeOf3
  v3 := Tryd.zeroValue3
  t4 := Tryd.underlying4
  a4 := Tryd.isAgg4
  z4 := Tryd.sizeOf4
  v4 := Tryd.zeroValue4
  t5 := Tryd.underlying5
  a5 := Tryd.isAgg5
  z5 := Tryd.sizeOf5
  v5 := Tryd.zeroValue5
  t9 := Tryd.underlying9
  a9 := Tryd.isAgg9
  z9 := Tryd.sizeOf9
  v9 := Tryd.zeroValue9 }
def Tryd.laysM171_ren : Go.Shelf.Ren := ⟨fun | 129 => 95 | 171 => 34 | 243 => 48 | 246 => 63 | 283 => 78 | 284 => 79 | 285 => 80 | 286 => 81 | 317 => 94 | 318 => 96 | 319 => 97 | 320 => 98 | 337 => 104 | 338 => 105 | n => n, fun | 0 => 0 | 2 => 2 | 3 => 3 | 4 => 4 | 5 => 5 | 9 => 9 | 20 => 20 | 37 => 47 | 46 => 129 | 51 => 137 | 53 => 123 | 171 => 122 | 173 => 126 | 212 => 136 | 213 => 138 | 232 => 145 | 233 => 146 | n => n, fun | 1 => 0 | 17 => 1 | 18 => 2 | 19 => 3 | n => n⟩
theorem Tryd.laysM171 : Go.Proofs.LaysM.n171 Tryd.prog Tryd.laysM171_ren := {
  mixed := by kernel_rfl
  f129 := Tryd.func95.trans (congrArg some (by kernel_rfl))
  f171 := Tryd.func34.trans (congrArg some (by kernel_rfl))
  f243 := Tryd.func48.trans (congrArg some (by kernel_rfl))
  f246 := Tryd.func63.trans (congrArg some (by kernel_rfl))
  f283 := Tryd.func78.trans (congrArg some (by kernel_rfl))
  f284 := Tryd.func79.trans (congrArg some (by kernel_rfl))
  f285 := Tryd.func80.trans (congrArg some (by kernel_rfl))
  f286 := Tryd.func81.trans (congrArg some (by kernel_rfl))
  f317 := Tryd.func94.trans (congrArg some (by kernel_rfl))
  f318 := Tryd.func96.trans (congrArg some (by kernel_rfl))
  f319 := Tryd.func97.trans (congrArg some (by kernel_rfl))
  f320 := Tryd.func98.trans (congrArg some (by kernel_rfl))
  f337 := Tryd.func104.trans (congrArg some (by kernel_rfl))
  f338 := Tryd.func105.trans (congrArg some (by kernel_rfl))
  t0 := Tryd.underlying0
  a0 := Tryd.isAgg0
  z0 := Tryd.sizeOf0
  v0 := Tryd.zeroValue0
  t2 := Tryd.underlying2
  a2 := Tryd.isAgg2
  z2 := Tryd.sizeOf2
  v2 := Tryd.zeroValue2
  t3 := Tryd.underlying3
  a3 := Tryd.isAgg3
  z3 := Tryd.sizeOf3
  v3 := Tryd.zeroValue3
  t4 := Tryd.underlying4
  a4 := Tryd.isAgg4
  z4 := Tryd.sizeOf4
  v4 := Tryd.zeroValue4
  t5 := Tryd.underlying5
  a5 := Tryd.isAgg5
  z5 := Tryd.sizeOf5
  v5 := Tryd.zeroValue5
  t9 := Tryd.underlying9
  a9 := Tryd.isAgg9
  z9 := Tryd.sizeOf9
  v9 := Tryd.zeroValue9
  t20 := Tryd.underlying20
  a20 := Tryd.isAgg20
  z20 := Tryd.sizeOf20
  v20 := Tryd.zeroValue20
  t37 := Tryd.underlying47
  a37 := Tryd.isAgg47
  z37 := Tryd.sizeOf47
  v37 := Tryd.zeroValue47
  t46 := Tryd.underlying129
  a46 := Tryd.isAgg129
  z46 := Tryd.sizeOf129
  v46 := Tryd.zeroValue129
  t51 := Tryd.underlying137
  a51 := Tryd.isAgg137
  z51 := Tryd.sizeOf137
  v51 := Tryd.zeroValue137
  t53 := Tryd.underlying123
  a53 := Tryd.isAgg123
  z53 := Tryd.sizeOf123
  v53 := Tryd.zeroValue123
  t171 := Tryd.underlying122
  a171 := Tryd.isAgg122
  z171 := Tryd.sizeOf122
  v171 := Tryd.zeroValue122
  t173 := Tryd.underlying126
  a173 := Tryd.isAgg126
  z173 := Tryd.sizeOf126
  v173 := Tryd.zeroValue126
  t212 := Tryd.underlying136
  a212 := Tryd.isAgg136
  z212 := Tryd.sizeOf136
  v212 := Tryd.zeroValue136
  t213 := Tryd.underlying138
  a213 := Tryd.isAgg138
  z213 := Tryd.sizeOf138
  t232 := Tryd.underlying145
  a232 := Tryd.isAgg145
  z232 := Tryd.sizeOf145
  v232 := Tryd.zeroValue145
  t233 := Tryd.underlying146
  a233 := Tryd.isAgg146
  z233 := Tryd.sizeOf146
  v233 := Tryd.zeroValue146
  g17 := by kernel_rfl
  g18 := by kernel_rfl
  g19 := by kernel_rfl
  i0 := by kernel_rfl
  i2 := by kernel_rfl
  i3 := by kernel_rfl
  i4 := by kernel_rfl
  i5 := by kernel_rfl
  i9 := by kernel_rfl
  i20 := by kernel_rfl
  i37 := by kernel_rfl
  i46 := by kernel_rfl
  i51 := by kernel_rfl
  i53 := by kernel_rfl
  i171 := by kernel_rfl
  i173 := by kernel_rfl
  i212 := by kernel_rfl
  i232 := by kernel_rfl
  i233 := by kernel_rfl
  m17 := by kernel_rfl
  m18 := by kernel_rfl
  m19 := by kernel_rfl }
end Go.Proofs.YtnmmhihfnphjeaaDoor

namespace Go.Tx
set_option linter.unusedVariables false

/-- Is a byte one of 32 to 126? -/
def prB (n : Int) : Bool := decide (32 ≤ n) && decide (n ≤ 126)
/-- Is a byte plain: 9, 10, 32 to 126? -/
def plB (n : Int) : Bool := (n == 9) || (n == 10) || prB n
/-- Are all bytes of a text plain? -/
def plain (l : List UInt8) : Bool := l.all fun c => plB (c.toNat : Int)

/-- The text of a row of bytes. -/
def str (l : List UInt8) : ByteArray := ⟨l.toArray⟩
theorem str_list (l : List UInt8) : (str l).data.toList = l := rfl
theorem str_size (l : List UInt8) : (str l).size = l.length := by simp [str, ByteArray.size]
theorem ba_app (x y : ByteArray) : (x ++ y).data.toList = x.data.toList ++ y.data.toList := by simp
theorem ba_ext {x y : ByteArray} (h : x.data.toList = y.data.toList) : x = y := by
  cases x; cases y; simp at h; rw [h]
theorem str_app (a b : List UInt8) : str a ++ str b = str (a ++ b) := ba_ext (by rw [ba_app]; rfl)
theorem str_of (s : ByteArray) : str s.data.toList = s := ba_ext rfl

theorem len_eq (s : ByteArray) : s.data.toList.length = s.size := by simp

theorem take_snoc (s : ByteArray) (k : Nat) (h : k < s.size) : s.data.toList.take (k + 1) = s.data.toList.take k ++ [s[k]] := by
  rw [List.take_succ_eq_append_getElem (by simpa using h)]; rfl

theorem plain_snoc (l : List UInt8) (c : UInt8) : plain (l ++ [c]) = (plain l && plB (c.toNat : Int)) := by simp [plain, List.all_append]

theorem plain_take_false (s : ByteArray) (k : Nat) (h : k < s.size) (hb : plB ((s[k]).toNat : Int) = false) : plain s.data.toList = false := by
  have hm : s[k] ∈ s.data.toList := by
    have : s[k] = s.data.toList[k]'(by simpa using h) := rfl
    rw [this]; exact List.getElem_mem _
  unfold plain
  rw [List.all_eq_false]
  exact ⟨_, hm, by simp [hb]⟩

theorem plain_more (s : ByteArray) (k : Nat) (h : k < s.size) (hp : RowKit.Hid (plain (s.data.toList.take k) = true)) (hb : plB ((s[k]).toNat : Int) = true) : RowKit.Hid (plain (s.data.toList.take (k + 1)) = true) := by
  show plain _ = true
  rw [take_snoc s k h, plain_snoc, hp.out, hb]; rfl

theorem take_all (s : ByteArray) (k : Nat) (h : s.size ≤ k) : s.data.toList.take k = s.data.toList := List.take_of_length_le (by simpa using h)

theorem tmod_bd (a n : Int) (hn : 1 ≤ n) : -n < a.tmod n ∧ a.tmod n < n :=
  ⟨Int.lt_tmod_of_pos a (by omega), Int.tmod_lt_of_pos a (by omega)⟩

theorem tmod_up (a n : Int) (hn : 1 ≤ n) (h : 0 ≤ a.tmod n) : a.tmod n = a % n := by
  have h1 := Int.tmod_eq_emod (a := a) (b := n)
  have h2 := Int.emod_lt_of_pos a (b := n) (by omega)
  by_cases hc : 0 ≤ a ∨ n ∣ a
  · rw [if_pos hc] at h1; omega
  · rw [if_neg hc] at h1; omega

theorem tmod_dn (a n : Int) (hn : 1 ≤ n) (h : a.tmod n < 0) : a.tmod n + n = a % n := by
  have h1 := Int.tmod_eq_emod (a := a) (b := n)
  have h2 := Int.emod_lt_of_pos a (b := n) (by omega)
  have h3 := Int.emod_nonneg a (b := n) (by omega)
  by_cases hc : 0 ≤ a ∨ n ∣ a
  · rw [if_pos hc] at h1; omega
  · rw [if_neg hc] at h1; omega

/-- A row of digits' number. -/
def numVal (l : List UInt8) : Int := l.foldl (fun n c => n * 10 + ((c.toNat : Int) - 48)) 0
def isDig (c : UInt8) : Bool := decide (48 ≤ (c.toNat : Int)) && decide ((c.toNat : Int) ≤ 57)
/-- 1 to 9 digits, the first no 0, if there are several. -/
def okNum (l : List UInt8) : Bool := decide (1 ≤ l.length) && decide (l.length ≤ 9) && !(decide (1 < l.length) && (l.head? == some 48)) && l.all isDig
def numR (l : List UInt8) : Int := if okNum l = true then numVal l else 0

theorem numVal_snoc (l : List UInt8) (c : UInt8) : numVal (l ++ [c]) = numVal l * 10 + ((c.toNat : Int) - 48) := by simp [numVal]
theorem numVal_take (s : ByteArray) (k : Nat) (h : k < s.size) : numVal (s.data.toList.take (k + 1)) = numVal (s.data.toList.take k) * 10 + (((s[k]).toNat : Int) - 48) := by rw [take_snoc s k h, numVal_snoc]

theorem digs_take (s : ByteArray) (k : Nat) (h : k < s.size) : (s.data.toList.take (k + 1)).all isDig = ((s.data.toList.take k).all isDig && isDig s[k]) := by rw [take_snoc s k h]; simp [List.all_append]

theorem numVal_bd (s : ByteArray) : ∀ k, k ≤ s.size → (s.data.toList.take k).all isDig = true → 0 ≤ numVal (s.data.toList.take k) ∧ numVal (s.data.toList.take k) < 10 ^ k
  | 0, _, _ => by simp [numVal]
  | k + 1, h, hd => by
    rw [digs_take s k (by omega)] at hd
    simp only [Bool.and_eq_true] at hd
    have ih := numVal_bd s k (by omega) hd.1
    have hc := hd.2
    simp only [isDig, Bool.and_eq_true, decide_eq_true_eq] at hc
    rw [numVal_take s k (by omega), Int.pow_succ]
    omega

theorem numVal_bd9 (s : ByteArray) (k : Nat) (h : k ≤ s.size) (h9 : k ≤ 9) (hd : (s.data.toList.take k).all isDig = true) : 0 ≤ numVal (s.data.toList.take k) ∧ numVal (s.data.toList.take k) ≤ 999999999 := by
  have hb := numVal_bd s k h hd
  have hp : ((10 ^ k : Nat) : Int) ≤ ((10 ^ 9 : Nat) : Int) := Int.ofNat_le.2 (Nat.pow_le_pow_right (by omega) h9)
  rw [Int.natCast_pow] at hp
  have e : ((10 : Nat) : Int) = 10 := rfl
  rw [e] at hp
  omega

theorem notDig_false (s : ByteArray) (k : Nat) (h : k < s.size) (hb : isDig s[k] = false) : s.data.toList.all isDig = false := by
  have hm : s[k] ∈ s.data.toList := by
    have : s[k] = s.data.toList[k]'(by simpa using h) := rfl
    rw [this]; exact List.getElem_mem _
  rw [List.all_eq_false]
  exact ⟨_, hm, by simp [hb]⟩

theorem head_eq (s : ByteArray) (h : 0 < s.size) : s.data.toList.head? = some s[0] := by
  have e : s.data.toList ≠ [] := by intro e; have := congrArg List.length e; rw [len_eq] at this; simp at this; subst this; simp at h
  rw [List.head?_eq_some_head e]; congr 1; rw [List.head_eq_getElem]; rfl

theorem okNum_short (s : ByteArray) (h : s.size < 1) : okNum s.data.toList = false := by
  have e : s.data.toList.length = s.size := by simp
  have hd : decide (1 ≤ s.size) = false := decide_eq_false (by omega)
  unfold okNum; rw [e, hd]; rfl
theorem okNum_long (s : ByteArray) (h : 9 < s.size) : okNum s.data.toList = false := by
  have e : s.data.toList.length = s.size := by simp
  simp [okNum, e]; omega
theorem okNum_zero (s : ByteArray) (h : 1 < s.size) (h0 : ((s[0]).toNat : Int) = 48) : okNum s.data.toList = false := by
  have e : s.data.toList.length = s.size := by simp
  have e0 : s[0] = 48 := UInt8.toNat_inj.1 (by show _ = 48; omega)
  simp [okNum, e, head_eq s (by omega), h, e0]
theorem okNum_else (s : ByteArray) (h1 : 1 ≤ s.size) (h9 : s.size ≤ 9) (h : s.size = 1 ∨ ((s[0]).toNat : Int) ≠ 48) : okNum s.data.toList = s.data.toList.all isDig := by
  have e : s.data.toList.length = s.size := by simp
  have : (decide (1 < s.size) && (s.data.toList.head? == some 48)) = false := by
    rcases h with h | h
    · simp [h]
    · rw [head_eq s (by omega)]
      have : s[0] ≠ 48 := by intro e; apply h; rw [e]; rfl
      simp [this]
  unfold okNum
  rw [e, this]; simp [h1, h9]

/-- A digit's byte. -/
def dg (n : Nat) : UInt8 := UInt8.ofNat (48 + n)
/-- A number's digits. -/
def digF : Nat → Nat → List UInt8
  | 0, _ => []
  | f + 1, n => if n < 10 then [dg n] else digF f (n / 10) ++ [dg (n % 10)]

theorem digF_len : ∀ f n, (digF f n).length ≤ f
  | 0, _ => by simp [digF]
  | f + 1, n => by
    rw [digF]
    split
    · simp
    · have := digF_len f (n / 10); simp; omega

/-- The bytes that the statements' texts are of. -/
def sgs : List UInt8 := [10, 9, 32, 34, 92, 35, 47, 97, 98, 99, 110, 116, 58, 61, 45, 91, 93, 123, 125, 44, 46, 48, 49, 50, 51, 118, 120, 126, 94, 42, 124, 60, 62, 33, 95, 122, 121, 113]
def sg1 (z : Int) : UInt8 := sgs.getD (z % 38).toNat 0
/-- Any bytes, made plain. -/
def sg (l : List Int) : List UInt8 := l.map sg1

end Go.Tx

set_option linter.unusedSimpArgs false
namespace Go.Proofs.YtnmmhihfnphjeaaDoor
set_option linter.unusedVariables false
open Go.RowKit Go.Tx Go.Sort

theorem addr_add (b off i : Nat) : (⟨b, off, none⟩ : Addr).add i = ⟨b, off + i, none⟩ := by unfold Addr.add; split <;> simp_all
theorem cellLater {w wx : World} {a : Addr} {v : Value} (hb : Below w.heap.size w wx) (h : w.cell? a = some v) : wx.cell? a = some v := (hb.cell (World.block_lt_of_cell? _ _ h)).trans h
theorem step {w W v : World} (h : Below w.heap.size w W) (k : Below W.heap.size W v) : Below w.heap.size w v := h.trans (k.mono h.size)
theorem setCellDrewN (w : World) (n : Nat) (a : Addr) (v : Value) : (w.drewN n).setCell a v = (w.setCell a v).drewN n := rfl
theorem allocDrewN (w : World) (n : Nat) (o : Obj) : (w.drewN n).alloc o = (w.alloc o).drewN n := rfl
theorem belDrewN (w : World) : ∀ n, Below w.heap.size w (w.drewN n)
  | 0 => Below.refl _ _
  | n + 1 => (belDrewN w n).drew

/-- A slice of texts that is there. -/
structure SRow (w : World) (a : Option Addr) (len cap : Nat) (ss : List (List UInt8)) : Prop where
  n : ss.length = len
  nil : a = none → len = 0
  cell : ∀ x, a = some x → ∀ j v, (ss.map encStr)[j]? = some v → w.cell? (x.add j) = some v

theorem infoS : Tryd.prog.info? 9 = some Tryd.t9 := by kernel_rfl
theorem sizeS : (Tryd.prog.info? 9).map (·.size) = some 1 := by kernel_rfl

theorem enc_one (ss : List (List UInt8)) : ∀ u ∈ ss.map encStr, u.oneCell' = true := by
  intro u hu
  simp at hu
  obtain ⟨z, _, rfl⟩ := hu
  rfl

theorem SRow.at_ {w : World} {a : Option Addr} {len cap : Nat} {ss : List (List UInt8)} (h : SRow w a len cap ss) (h0 : 0 < len) : ∃ b off, a = some ⟨b, off, none⟩ ∧ ∀ (i : Nat) (hi : i < len), w.cell? ⟨b, off + i, none⟩ = some (.string (str (ss.getD i []))) := by
  cases a with
  | none => have := h.nil rfl; omega
  | some x =>
    obtain ⟨b, off, spot⟩ := x
    have hk : ∀ (i : Nat) (hi : i < len), w.cell? ((⟨b, off, spot⟩ : Addr).add i) = some (.string (str (ss.getD i []))) := by
      intro i hi
      have hl : i < ss.length := by rw [h.n]; exact hi
      have := h.cell _ rfl i (encStr ss[i]) (by simp [List.getElem?_eq_getElem hl])
      rw [this]
      simp [List.getD, List.getElem?_eq_getElem hl, encStr, str]
    have hspot : spot = none := by simpa [Addr.add] using World.cell?_spot (hk 0 h0)
    subst hspot
    exact ⟨b, off, rfl, fun i hi => by have := hk i hi; rw [addr_add] at this; exact this⟩

theorem SRow.later {w w' : World} {a : Option Addr} {len cap : Nat} {ss : List (List UInt8)} (h : SRow w a len cap ss) (hb : Below w.heap.size w w') : SRow w' a len cap ss :=
  ⟨h.n, h.nil, fun x e j v hj => cellLater hb (h.cell x e j v hj)⟩

theorem own_row {w : World} {B g n cap : Nat} {ts : List (List UInt8)} (h : w.ownsRow B 9 1 (.slice (some ⟨g, 0, none⟩) n cap) n (ts.map encStr)) : SRow w (some ⟨g, 0, none⟩) n cap ts :=
  ⟨by have := h.1; simpa using this, (fun e => nomatch e), fun x e j v hj => (show (⟨g, 0, none⟩ : Addr) = x by simpa using e) ▸ h.cells rfl j v hj⟩

theorem app_run {w : World} {B n : Nat} {v : Value} {ts : List (List UInt8)} (ty : TypeId) (hown : w.ownsRow B 9 1 v n (ts.map encStr)) (ad : Option Addr) (m c : Nat) (us : List (List UInt8)) (hs : SRow w ad m c us) (hn : n + m ≤ 10000) (hb : B ≤ w.heap.size) :
    ∃ v' w', (Builtin.append_ #[36, 36] ty #[v, .slice ad m c]).run Tryd.prog w = .ok v' w' ∧ w'.ownsRow B 9 1 v' (n + m) ((ts ++ us).map encStr) ∧ w.grownBy w' v.ownBlock ∧ (v'.ownBlock = v.ownBlock ∨ v'.ownBlock = some w.heap.size) := by
  have ht : Tryd.prog.underlying 36 = some (.slice 9) := Tryd.underlying36
  cases ad with
  | some x =>
    obtain ⟨v', w', h1, h2, h3, _, h5⟩ := run_append_own_at (P := Tryd.prog) w B 36 ty 9 Tryd.t9 (.string ⟨#[]⟩) 1 16 ht infoS rfl rfl rfl rfl (by decide) v n (ts.map encStr) hown x m c (us.map encStr) (by simp [hs.n]) (hs.cell x rfl) (enc_one us) (by unfold maxLen; omega) (by omega) hb
    exact ⟨v', w', h1, by rw [List.map_append]; exact h2, h3, h5⟩
  | none =>
    obtain rfl := hs.nil rfl
    have hu : us = [] := List.eq_nil_of_length_eq_zero hs.n
    subst hu
    refine ⟨v, w, ?_, by simpa using hown, ⟨rfl, rfl, rfl, Nat.le_refl _, fun _ _ _ => rfl⟩, .inl rfl⟩
    rcases hown.2 with ⟨rfl, rfl⟩ | ⟨g, cap, cur, rfl, _, hg, hnc, _, _, _⟩
    · simp [Builtin.append_, run_underlying ht, sizeOf, typeInfo, infoS, Builtin.lenOf, Builtin.firstCells, loadCells, loadCellsFrom]
    · simp [Builtin.append_, run_underlying ht, sizeOf, typeInfo, infoS, Builtin.lenOf, Builtin.firstCells, loadCells, loadCellsFrom, hnc, storeCells]

/-- At the operation. -/
theorem wp_app {w : World} {o : Oper} {a : Act} {K : Act → World → Prop} {Q : Exit → Act → World → Prop} (s x : Operand) (ho : o.op = .call { callee := .builtin .append, args := #[s, x], argTypes := #[36, 36] })
    (B n : Nat) (v : Value) (ts : List (List UInt8)) (ad : Option Addr) (m c : Nat) (us : List (List UInt8)) (hv : a.eval s = v) (hx : a.eval x = .slice ad m c) (hown : w.ownsRow B 9 1 v n (ts.map encStr)) (hs : SRow w ad m c us) (hn : n + m ≤ 10000) (hb : B ≤ w.heap.size)
    (h : ∀ v' w', w'.ownsRow B 9 1 v' (n + m) ((ts ++ us).map encStr) → w.grownBy w' v.ownBlock → (v'.ownBlock = v.ownBlock ∨ v'.ownBlock = some w.heap.size) → K (a.put o.dst v') w') : o.wp Tryd.prog a w K Q := by
  obtain ⟨v', w', hr, h2, h3, h4⟩ := app_run o.type hown ad m c us hs hn hb
  unfold Oper.wp execOp
  simp only [ho, resolve, invoke, builtin, Sem.run_bind, Sem.run_pure, Result.andThen_ok, List.map_toArray, List.map_cons, List.map_nil, hv, hx, hr]
  exact h v' w' h2 h3 h4

theorem step_app {w : World} {ops : Array Oper} {o : Oper} {a : Act} {K : Act → World → Prop} {Q : Exit → Act → World → Prop} {E : Prop} (hw : Region.wanted o (yielded ops a.tmps) = true) (s x : Operand) (ho : o.op = .call { callee := .builtin .append, args := #[s, x], argTypes := #[36, 36] })
    (B n : Nat) (v : Value) (ts : List (List UInt8)) (ad : Option Addr) (m c : Nat) (us : List (List UInt8)) (hv : a.eval s = v) (hx : a.eval x = .slice ad m c) (hown : w.ownsRow B 9 1 v n (ts.map encStr)) (hs : SRow w ad m c us) (hn : n + m ≤ 10000) (hb : B ≤ w.heap.size)
    (h : ∀ v' w', w'.ownsRow B 9 1 v' (n + m) ((ts ++ us).map encStr) → w.grownBy w' v.ownBlock → (v'.ownBlock = v.ownBlock ∨ v'.ownBlock = some w.heap.size) → K (a.put o.dst v') w') :
    if Region.wanted o (yielded ops a.tmps) = true then Oper.wp Tryd.prog o a w K Q else E := by
  rw [if_pos hw]
  exact wp_app s x ho B n v ts ad m c us hv hx hown hs hn hb h

theorem wpList_app {w : World} {ops : Array Oper} {rest : List Oper} {o : Oper} {a : Act} {Q : Exit → Act → World → Prop} (hw : Region.wanted o (yielded ops a.tmps) = true) (s x : Operand) (ho : o.op = .call { callee := .builtin .append, args := #[s, x], argTypes := #[36, 36] })
    (B n : Nat) (v : Value) (ts : List (List UInt8)) (ad : Option Addr) (m c : Nat) (us : List (List UInt8)) (hv : a.eval s = v) (hx : a.eval x = .slice ad m c) (hown : w.ownsRow B 9 1 v n (ts.map encStr)) (hs : SRow w ad m c us) (hn : n + m ≤ 10000) (hb : B ≤ w.heap.size)
    (h : ∀ v' w', w'.ownsRow B 9 1 v' (n + m) ((ts ++ us).map encStr) → w.grownBy w' v.ownBlock → (v'.ownBlock = v.ownBlock ∨ v'.ownBlock = some w.heap.size) → wpList Tryd.prog ops Q rest (a.put o.dst v') w') : wpList Tryd.prog ops Q (o :: rest) a w :=
  wpList_step fun K hK => step_app hw s x ho B n v ts ad m c us hv hx hown hs hn hb fun v' w' h1 h2 h3 => hK _ _ (h v' w' h1 h2 h3)

theorem own_at {w : World} {B n : Nat} {v : Value} {ts : List (List UInt8)} (h : w.ownsRow B 9 1 v n (ts.map encStr)) (h0 : 0 < n) : ∃ g cap, v = .slice (some ⟨g, 0, none⟩) n cap ∧ B ≤ g ∧ n ≤ cap ∧ cap ≤ maxLen ∧ ∀ i, i < n → w.cell? ⟨g, i, none⟩ = some (.string (str (ts.getD i []))) := by
  rcases h.2 with ⟨_, hn⟩ | ⟨g, cap, cur, rfl, hb, hg, hnc, hcm, _⟩
  · omega
  · obtain ⟨b, off, e, hc⟩ := (own_row h).at_ h0
    simp only [Option.some.injEq, Addr.mk.injEq, and_true] at e
    obtain ⟨rfl, rfl⟩ := e
    exact ⟨g, cap, rfl, hb, hnc, hcm, fun i hi => by have := hc i hi; rwa [Nat.zero_add] at this⟩

theorem fresh_own {w : World} {B g : Nat} (hg : w.heap[g]? = some (.cells #[] 9 (0, 0))) (hb : B ≤ g) : w.ownsRow B 9 1 (.slice (some ⟨g, 0, none⟩) 0 0) 0 (([] : List (List UInt8)).map encStr) :=
  ⟨rfl, .inr ⟨g, 0, #[], rfl, hb, hg, Nat.le_refl _, Nat.zero_le _, rfl, rfl⟩⟩

theorem one_row {w : World} {h c : Nat} {x : List UInt8} (hc : w.cell? ⟨h, 0, none⟩ = some (.string (str x))) : SRow w (some ⟨h, 0, none⟩) 1 c [x] := by
  refine ⟨rfl, (fun e => nomatch e), fun y e j v hj => ?_⟩
  obtain rfl : ⟨h, 0, none⟩ = y := by simpa using e
  cases j with
  | zero =>
    simp at hj
    subst hj
    rw [addr_add]
    exact hc
  | succ j => simp at hj

theorem own_pre {w : World} {B g n cap : Nat} {ts : List (List UInt8)} (h : w.ownsRow B 9 1 (.slice (some ⟨g, 0, none⟩) n cap) n (ts.map encStr)) (j c : Nat) (hj : j ≤ n) : SRow w (some ⟨g, 0, none⟩) j c (ts.take j) := by
  have hr := own_row h
  have hn := hr.n
  refine ⟨by rw [List.length_take, hn]; omega, (fun e => nomatch e), fun x e i v hi => hr.cell x e i v ?_⟩
  rw [List.map_take, List.getElem?_take] at hi
  split at hi
  · exact hi
  · cases hi

theorem own_suf {w : World} {B g n cap : Nat} {ts : List (List UInt8)} (h : w.ownsRow B 9 1 (.slice (some ⟨g, 0, none⟩) n cap) n (ts.map encStr)) (j c : Nat) (hj : j ≤ n) : SRow w (some ⟨g, j, none⟩) (n - j) c (ts.drop j) := by
  have hr := own_row h
  have hn := hr.n
  refine ⟨by rw [List.length_drop, hn], (fun e => nomatch e), fun x e i v hi => ?_⟩
  obtain rfl : ⟨g, j, none⟩ = x := by simpa using e
  rw [List.map_drop, List.getElem?_drop] at hi
  have := hr.cell _ rfl (j + i) v hi
  rw [addr_add] at this ⊢
  simpa using this

theorem bel_app {B : Nat} {a w w' : World} {T : TypeId} {v : Value} {n : Nat} {xs : List Value} (h : Below B a w) (ho : w.ownsRow B T 1 v n xs) (hg : w.grownBy w' v.ownBlock) (hB : B ≤ w.heap.size) : Below B a w' := h.grown hg hB (fun k e => (ho.lt k e).1)

theorem at_new (w : World) (o : Obj) (n : Nat) (h : n = w.heap.size) : (w.alloc o).heap[n]? = some o := by subst h; exact heap_alloc_new w o
theorem at_old (w : World) (o : Obj) (n : Nat) (h : n < w.heap.size) {r : Option Obj} (hr : w.heap[n]? = r) : (w.alloc o).heap[n]? = r := (Below.heap_alloc w o n h).trans hr

theorem own_form {w : World} {B n : Nat} {v : Value} {ts : List (List UInt8)} (h : w.ownsRow B 9 1 v n (ts.map encStr)) : (v = .slice none 0 0 ∧ n = 0) ∨ ∃ g cap, v = .slice (some ⟨g, 0, none⟩) n cap ∧ B ≤ g ∧ n ≤ cap ∧ cap ≤ maxLen ∧ ∀ i, i < n → w.cell? ⟨g, i, none⟩ = some (.string (str (ts.getD i []))) := by
  rcases h.2 with h' | ⟨g, cap, cur, rfl, hb, hg, hnc, hcm, _⟩
  · exact .inl h'
  · refine .inr ⟨g, cap, rfl, hb, hnc, hcm, fun i hi => ?_⟩
    obtain ⟨b, off, e, hc⟩ := (own_row h).at_ (by omega)
    simp only [Option.some.injEq, Addr.mk.injEq, and_true] at e
    obtain ⟨rfl, rfl⟩ := e
    have := hc i hi
    rwa [Nat.zero_add] at this

theorem own_tail {w : World} {B g n cap : Nat} {ts : List (List UInt8)} (h : w.ownsRow B 9 1 (.slice (some ⟨g, 0, none⟩) n cap) n (ts.map encStr)) (j c : Nat) (hj : j ≤ n) (hc : n ≤ cap) : SRow w (if cap = j then some ⟨g, 0, none⟩ else some ⟨g, j, none⟩) (n - j) c (ts.drop j) := by
  by_cases e : cap = j
  · rw [if_pos e]
    have hn := (own_row h).n
    have hd : ts.drop j = [] := List.drop_eq_nil_of_le (by omega)
    rw [hd]
    exact ⟨by simp; omega, (fun e => nomatch e), fun x _ i v hi => by simp at hi⟩
  · rw [if_neg e]
    exact own_suf h j c hj

theorem own_mono {w : World} {B B' n : Nat} {T : TypeId} {v : Value} {xs : List Value} (h : w.ownsRow B T 1 v n xs) (hb : B' ≤ B) : w.ownsRow B' T 1 v n xs := by
  refine ⟨h.1, ?_⟩
  rcases h.2 with h' | ⟨g, cap, cur, e, h1, h2⟩
  · exact .inl h'
  · exact .inr ⟨g, cap, cur, e, Nat.le_trans hb h1, h2⟩

theorem none_row (w : World) : SRow w none 0 0 [] := ⟨rfl, fun _ => rfl, fun _ e => nomatch e⟩

end Go.Proofs.YtnmmhihfnphjeaaDoor

namespace Go.Tx
set_option linter.unusedVariables false

theorem dg_val (n : Nat) (h : n < 10) : ((dg n).toNat : Int) = 48 + n := by
  unfold dg; rw [UInt8.toNat_ofNat']; omega
theorem dg_dig (n : Nat) (h : n < 10) : isDig (dg n) = true := by
  have := dg_val n h
  simp [isDig]; omega

theorem digF_dig : ∀ f n, (digF f n).all isDig = true
  | 0, _ => rfl
  | f + 1, n => by
    rw [digF]
    by_cases h : n < 10
    · rw [if_pos h]; simp [dg_dig n h]
    · rw [if_neg h, List.all_append, digF_dig f (n / 10)]
      simp [dg_dig (n % 10) (by omega)]

theorem digF_val : ∀ f n, n < 10 ^ (f + 1) → numVal (digF (f + 1) n) = n
  | 0, n, h => by
    have h10 : n < 10 := by simpa using h
    rw [digF, if_pos h10]
    simp [numVal, dg_val n h10]; omega
  | f + 1, n, h => by
    rw [digF]
    by_cases h10 : n < 10
    · rw [if_pos h10]; simp [numVal, dg_val n h10]; omega
    · rw [if_neg h10, numVal_snoc, digF_val f (n / 10) (by rw [Nat.pow_succ] at h; omega), dg_val (n % 10) (by omega)]
      omega

theorem digF_ne : ∀ f n, digF (f + 1) n ≠ []
  | f, n => by
    rw [digF]
    by_cases h10 : n < 10
    · rw [if_pos h10]; simp
    · rw [if_neg h10]; simp

theorem digF_head : ∀ f n, 1 ≤ n → n < 10 ^ (f + 1) → ∃ c, (digF (f + 1) n).head? = some c ∧ c ≠ 48
  | f, n, h1, h => by
    by_cases h10 : n < 10
    · rw [digF, if_pos h10]
      refine ⟨dg n, rfl, fun e => ?_⟩
      have := dg_val n h10
      rw [e] at this
      have h48 : ((48 : UInt8).toNat : Int) = 48 := rfl
      omega
    · cases f with
      | zero => simp at h; omega
      | succ f =>
        obtain ⟨c, hc, hne⟩ := digF_head f (n / 10) (by omega) (by rw [Nat.pow_succ] at h; omega)
        rw [digF, if_neg h10]
        refine ⟨c, ?_, hne⟩
        rw [List.head?_append, hc]; rfl

theorem dig_len (n : Nat) : 1 ≤ (digF 9 n).length ∧ (digF 9 n).length ≤ 9 := by
  have h1 := digF_len 9 n
  have h2 : (digF 9 n).length ≠ 0 := fun e => digF_ne 8 n (List.eq_nil_of_length_eq_zero e)
  omega

theorem dig_ok (n : Nat) (h : n < 1000000000) : okNum (digF 9 n) = true ∧ numR (digF 9 n) = n ∧ okNum (48 :: digF 9 n) = false := by
  have h' : n < 10 ^ (8 + 1) := by simpa using h
  obtain ⟨hl1, hl2⟩ := dig_len n
  have hd := digF_dig 9 n
  have hz : (decide (1 < (digF 9 n).length) && ((digF 9 n).head? == some 48)) = false := by
    by_cases h0 : n = 0
    · subst h0; decide
    · obtain ⟨c, hc, hne⟩ := digF_head 8 n (by omega) h'
      rw [hc]; simp [hne]
  have hok : okNum (digF 9 n) = true := by
    unfold okNum; rw [hz, hd]; simp [hl1, hl2]
  refine ⟨hok, ?_, ?_⟩
  · rw [numR, if_pos hok]; exact digF_val 8 n h'
  · unfold okNum
    have : decide (1 < (48 :: digF 9 n).length) = true := by simp; omega
    rw [this]; simp

end Go.Tx
