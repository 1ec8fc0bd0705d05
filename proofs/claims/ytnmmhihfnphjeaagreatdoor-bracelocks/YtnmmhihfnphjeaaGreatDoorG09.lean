/-
  Contracts of the reference's cursor.
  Plain mathematics: what was quoted is unquoted as it was.
  The library's functions that package path calls, by the shelf's contracts, laid at this program.
  Slices of texts: those that are there, those that the call owns; append.
  Plain mathematics of digits: a number's digits are it.
-/
import Derived.Test.YtnmmhihfnphjeaaGreatDoorG08
import Derived.Test.YtnmmhihfnphjeaaGreatDoorG07
import Derived.Test.YtnmmhihfnphjeaaGreatDoorProg
import Derived.Shelf.Small.Strs
import Derived.Shelf.Small.Wraps
import Derived.Shelf.Strings.Cut
import Derived.Shelf.Strings.LastIndex
import Derived.Shelf.Strconv.Itoa3
import Derived.Shelf.Strconv.ErrVarAll
import Derived.Test.YtnmmhihfnphjeaaGreatDoorG01
import Derived.Sort.EncStr
import Derived.Maps.AppendAt
import Derived.WalkKit
import Derived.WalkSpells
import Derived.WalkLawsBesides
import Derived.Laws.AppendOwnNone

namespace Go.Proofs.YtnmmhihfnphjeaaGreatDoor.W
set_option linter.unusedVariables false
open Go.RowKit Go.Joins Go.Tx
attribute [local go_sem ↓] Go.wp_at_zero Go.wp_at_succ

theorem pre_long (l r : List UInt8) (h : l.length < r.length) : Lib.hasPrefix l r = false := by
  unfold Lib.hasPrefix
  cases hp : r.isPrefixOf l with
  | false => rfl
  | true =>
    have := (List.isPrefixOf_iff_prefix.1 hp).length_le
    omega

theorem pre_cut (s r : ByteArray) (p : Nat) (hp : p ≤ s.size) (h : r.size ≤ s.size - p) : Lib.hasPrefix (s.data.toList.drop p) r.data.toList = ((s.extract p (p + r.size)).toList == r.toList) := by
  have e1 : (s.extract p (p + r.size)).data.toList = (s.data.toList.drop p).take r.size := by simp
  rw [ByteArray.toList_eq, ByteArray.toList_eq, e1, ← len_eq r]
  unfold Lib.hasPrefix
  generalize s.data.toList.drop p = l
  generalize r.data.toList = q
  rw [Bool.eq_iff_iff, List.isPrefixOf_iff_prefix, List.prefix_iff_eq_take]
  simp
  exact ⟨fun e => e.symm, fun e => e.symm⟩

/-- The bytes that texts are of, as a text. -/
def sgB : ByteArray := ⟨#[10, 9, 32, 34, 92, 35, 47, 97, 98, 99, 110, 116, 58, 61, 45, 91, 93, 123, 125, 44, 46, 48, 49, 50, 51, 118, 120, 126, 94, 42, 124, 60, 62, 33, 95, 122, 121, 113]⟩
theorem sgB_size : sgB.size = 38 := rfl
theorem signs_is (w : World) : Calls Tryz.prog 51 #[] w fun e w' => e = .returned (.string sgB) ∧ w' = w := signs_any w

theorem within_is (a n : Int) (m : Nat) (w : World) (h1 : 1 ≤ n) (h2 : n ≤ 4611686018427387904) (h3 : -9223372036854775808 ≤ a) (h4 : a ≤ 9223372036854775807) (hm : Hid ((m : Int) = a % n)) :
    Calls Tryz.prog 52 #[.int .i64 a, .int .i64 n] w fun e w' => e = .returned (.int .i64 m) ∧ w' = w := by
  rw [hm.out]; exact within_any a n w h1 h2 h3 h4

theorem row_at {k : IntKind} {w : World} {a : Option Addr} {len cap : Nat} {xs : List Int} (h : Row k w a len cap xs) (h0 : 0 < len) : ∃ b off, a = some ⟨b, off, none⟩ ∧ ∀ i, i < len → w.cell? ⟨b, off + i, none⟩ = some (.int k (xs.getD i 0)) := by
  cases a with
  | none => have := (h.nil rfl).1; omega
  | some x =>
    obtain ⟨b, off, spot⟩ := x
    have hc := h.cell _ rfl 0 h0
    have hspot : spot = none := by simpa [Addr.add] using World.cell?_spot hc
    subst hspot
    exact ⟨b, off, rfl, fun i hi => by have := h.cell _ rfl i hi; rw [addr_add] at this; exact this⟩

theorem row_bd {w : World} {a : Option Addr} {len cap : Nat} {xs : List Int} (h : Row .i64 w a len cap xs) (i : Nat) (hi : i < len) : -9223372036854775808 ≤ xs.getD i 0 ∧ xs.getD i 0 ≤ 9223372036854775807 := by
  have hl : i < xs.length := by rw [h.n]; exact hi
  have : xs.getD i 0 = xs[i] := by simp [List.getD, List.getElem?_eq_getElem hl]
  rw [this]
  exact bd64 (h.wf _ (List.getElem_mem hl))

theorem mod_nat (a n : Int) (h : 1 ≤ n) : ∃ m : Nat, Hid ((m : Int) = a % n) ∧ (m : Int) < n := by
  have b1 := Int.emod_nonneg a (b := n) (by omega)
  have b2 := Int.emod_lt_of_pos a (b := n) (by omega)
  exact ⟨(a % n).toNat, Int.toNat_of_nonneg b1, by omega⟩

end Go.Proofs.YtnmmhihfnphjeaaGreatDoor.W

namespace Go.Tx
set_option linter.unusedVariables false

theorem unq_esc (c : UInt8) (X : List UInt8) (hc : plB (c.toNat : Int) = true) : unq (esc1 c ++ X) = (unq X).map fun y => (c :: y.1, y.2 + (esc1 c).length) := by
  by_cases h1 : c = 34
  · subst h1
    show unq (92 :: 34 :: X) = _
    rw [unq_cons, if_neg (by decide), if_pos rfl]; rfl
  by_cases h2 : c = 92
  · subst h2
    show unq (92 :: 92 :: X) = _
    rw [unq_cons, if_neg (by decide), if_pos rfl]; rfl
  by_cases h3 : c = 10
  · subst h3
    show unq (92 :: 110 :: X) = _
    rw [unq_cons, if_neg (by decide), if_pos rfl]; rfl
  by_cases h4 : c = 9
  · subst h4
    show unq (92 :: 116 :: X) = _
    rw [unq_cons, if_neg (by decide), if_pos rfl]; rfl
  have he : esc1 c = [c] := by simp [esc1, esc, h1, h2, h3, h4]
  have hp : prB (c.toNat : Int) = true := by
    have e9 : ¬ (c.toNat : Int) = 9 := fun e => h4 (UInt8.toNat_inj.1 (by show _ = 9; omega))
    have e10 : ¬ (c.toNat : Int) = 10 := fun e => h3 (UInt8.toNat_inj.1 (by show _ = 10; omega))
    simpa [plB, e9, e10] using hc
  rw [he]
  show unq (c :: X) = _
  rw [unq_cons, if_neg h1, if_neg h2, if_pos hp]; rfl

theorem unq_escs : ∀ (l X : List UInt8), plain l = true → unq (escs l ++ 34 :: X) = some (l, (escs l).length + 1)
  | [], X, _ => by show unq (34 :: X) = _; rw [unq_cons, if_pos rfl]; rfl
  | c :: l, X, h => by
    have hc : plB (c.toNat : Int) = true ∧ plain l = true := by simpa [plain] using h
    have e : escs (c :: l) = esc1 c ++ escs l := by simp [escs]
    rw [e, List.append_assoc, unq_esc c _ hc.1, unq_escs l X hc.2]
    simp; omega

theorem unquote_quote (l X : List UInt8) (h : plain l = true) : unquote (quote l ++ X) = some (l, (quote l).length) := by
  have e : quote l ++ X = 34 :: (escs l ++ 34 :: X) := by simp [quote]
  rw [e]
  show (if (34 : UInt8) = 34 then (unq (escs l ++ 34 :: X)).map (fun y => (y.1, y.2 + 1)) else none) = _
  rw [if_pos rfl, unq_escs l X h]
  simp [quote]

end Go.Tx

namespace Go.Proofs.YtnmmhihfnphjeaaGreatDoor
set_option linter.unusedVariables false
open Go.Shelf Go.RowKit

def Tryz.lays103_ren : Go.Shelf.Ren := ⟨fun | 103 => 95 | 206 => 112 | 210 => 113 | n => n, fun | 3 => 3 | 4 => 4 | 9 => 9 | 24 => 138 | n => n, fun | 1 => 0 | 17 => 1 | 18 => 2 | 19 => 3 | n => n⟩
theorem Tryz.lays103 : Go.Proofs.Lays.n103 Tryz.prog Tryz.lays103_ren := {
  mixed := by kernel_rfl
  f103 := Tryz.func95.trans (congrArg some (by kernel_rfl))
  f206 := Tryz.func112.trans (congrArg some (by kernel_rfl))
  f210 := Tryz.func113.trans (congrArg some (by kernel_rfl))
  t3 := Tryz.underlying3
  a3 := Tryz.isAgg3
  z3 := Tryz.sizeOf3
  v3 := Tryz.zeroValue3
  t4 := Tryz.underlying4
  a4 := Tryz.isAgg4
  z4 := Tryz.sizeOf4
  v4 := Tryz.zeroValue4
  t9 := Tryz.underlying9
  a9 := Tryz.isAgg9
  z9 := Tryz.sizeOf9
  v9 := Tryz.zeroValue9
  t24 := Tryz.underlying138
  a24 := Tryz.isAgg138
  z24 := Tryz.sizeOf138
  v24 := Tryz.zeroValue138 }
def Tryz.lays137_ren : Go.Shelf.Ren := ⟨fun | 137 => 115 | 217 => 104 | 266 => 118 | n => n, fun | 3 => 3 | 5 => 5 | 9 => 9 | n => n, fun | 1 => 0 | 17 => 1 | 18 => 2 | 19 => 3 | n => n⟩
theorem Tryz.lays137 : Go.Proofs.Lays.n137 Tryz.prog Tryz.lays137_ren := {
  mixed := by kernel_rfl
  f137 := Tryz.func115.trans (congrArg some (by kernel_rfl))
  f217 := Tryz.func104.trans (congrArg some (by kernel_rfl))
  f266 := Tryz.func118.trans (congrArg some (by kernel_rfl))
  t3 := Tryz.underlying3
  a3 := Tryz.isAgg3
  z3 := Tryz.sizeOf3
  v3 := Tryz.zeroValue3
  t5 := Tryz.underlying5
  a5 := Tryz.isAgg5
  z5 := Tryz.sizeOf5
  v5 := Tryz.zeroValue5
  t9 := Tryz.underlying9
  a9 := Tryz.isAgg9
  z9 := Tryz.sizeOf9
  v9 := Tryz.zeroValue9 }
def Tryz.lays145_ren : Go.Shelf.Ren := ⟨fun | 145 => 97 | 217 => 104 | 219 => 85 | 220 => 114 | 224 => 106 | 225 => 105 | 266 => 118 | 267 => 107 | 314 => 119 | n => n, fun | 3 => 3 | 4 => 4 | 5 => 5 | 9 => 9 | 46 => 149 | 51 => 146 | 59 => 141 | 146 => 157 | n => n, fun | 1 => 0 | 17 => 1 | 18 => 2 | 19 => 3 | n => n⟩
theorem Tryz.lays145 : Go.Proofs.Lays.n145 Tryz.prog Tryz.lays145_ren := {
  mixed := by kernel_rfl
  f145 := Tryz.func97.trans (congrArg some (by kernel_rfl))
  f217 := Tryz.func104.trans (congrArg some (by kernel_rfl))
  f219 := Tryz.func85.trans (congrArg some (by kernel_rfl))
  f220 := Tryz.func114.trans (congrArg some (by kernel_rfl))
  f224 := Tryz.func106.trans (congrArg some (by kernel_rfl))
  f225 := Tryz.func105.trans (congrArg some (by kernel_rfl))
  f266 := Tryz.func118.trans (congrArg some (by kernel_rfl))
  f267 := Tryz.func107.trans (congrArg some (by kernel_rfl))
  f314 := Tryz.func119.trans (congrArg some (by kernel_rfl))
  t3 := Tryz.underlying3
  a3 := Tryz.isAgg3
  z3 := Tryz.sizeOf3
  v3 := Tryz.zeroValue3
  t4 := Tryz.underlying4
  a4 := Tryz.isAgg4
  z4 := Tryz.sizeOf4
  v4 := Tryz.zeroValue4
  t5 := Tryz.underlying5
  a5 := Tryz.isAgg5
  z5 := Tryz.sizeOf5
  v5 := Tryz.zeroValue5
  t9 := Tryz.underlying9
  a9 := Tryz.isAgg9
  z9 := Tryz.sizeOf9
  v9 := Tryz.zeroValue9
  t46 := Tryz.underlying149
  a46 := Tryz.isAgg149
  z46 := Tryz.sizeOf149
  v46 := Tryz.zeroValue149
  t51 := Tryz.underlying146
  a51 := Tryz.isAgg146
  z51 := Tryz.sizeOf146
  v51 := Tryz.zeroValue146
  t59 := Tryz.underlying141
  a59 := Tryz.isAgg141
  z59 := Tryz.sizeOf141
  v59 := Tryz.zeroValue141
  t146 := Tryz.underlying157
  a146 := Tryz.isAgg157
  z146 := Tryz.sizeOf157
  v146 := Tryz.zeroValue157
  g1 := by kernel_rfl }
def Tryz.lays149_ren : Go.Shelf.Ren := ⟨fun | 149 => 58 | 222 => 69 | n => n, fun | 3 => 3 | 4 => 4 | 5 => 5 | 9 => 9 | n => n, fun | 1 => 0 | 17 => 1 | 18 => 2 | 19 => 3 | n => n⟩
theorem Tryz.lays149 : Go.Proofs.Lays.n149 Tryz.prog Tryz.lays149_ren := {
  mixed := by kernel_rfl
  f149 := Tryz.func58.trans (congrArg some (by kernel_rfl))
  f222 := Tryz.func69.trans (congrArg some (by kernel_rfl))
  t3 := Tryz.underlying3
  a3 := Tryz.isAgg3
  z3 := Tryz.sizeOf3
  v3 := Tryz.zeroValue3
  t4 := Tryz.underlying4
  a4 := Tryz.isAgg4
  z4 := Tryz.sizeOf4
  v4 := Tryz.zeroValue4
  t5 := Tryz.underlying5
  a5 := Tryz.isAgg5
  z5 := Tryz.sizeOf5
  v5 := Tryz.zeroValue5
  t9 := Tryz.underlying9
  a9 := Tryz.isAgg9
  z9 := Tryz.sizeOf9
  v9 := Tryz.zeroValue9 }
def Tryz.laysM171_ren : Go.Shelf.Ren := ⟨fun | 129 => 100 | 171 => 37 | 243 => 56 | 246 => 68 | 283 => 81 | 284 => 82 | 285 => 83 | 286 => 84 | 317 => 99 | 318 => 101 | 319 => 102 | 320 => 103 | 337 => 116 | 338 => 117 | n => n, fun | 0 => 0 | 2 => 2 | 3 => 3 | 4 => 4 | 5 => 5 | 9 => 9 | 20 => 20 | 37 => 38 | 46 => 149 | 51 => 146 | 53 => 125 | 171 => 124 | 173 => 128 | 212 => 145 | 213 => 147 | 232 => 161 | 233 => 162 | n => n, fun | 1 => 0 | 17 => 1 | 18 => 2 | 19 => 3 | n => n⟩
theorem Tryz.laysM171 : Go.Proofs.LaysM.n171 Tryz.prog Tryz.laysM171_ren := {
  mixed := by kernel_rfl
  f129 := Tryz.func100.trans (congrArg some (by kernel_rfl))
  f171 := Tryz.func37.trans (congrArg some (by kernel_rfl))
  f243 := Tryz.func56.trans (congrArg some (by kernel_rfl))
  f246 := Tryz.func68.trans (congrArg some (by kernel_rfl))
  f283 := Tryz.func81.trans (congrArg some (by kernel_rfl))
  f284 := Tryz.func82.trans (congrArg some (by kernel_rfl))
  f285 := Tryz.func83.trans (congrArg some (by kernel_rfl))
  f286 := Tryz.func84.trans (congrArg some (by kernel_rfl))
  f317 := Tryz.func99.trans (congrArg some (by kernel_rfl))
  f318 := Tryz.func101.trans (congrArg some (by kernel_rfl))
  f319 := Tryz.func102.trans (congrArg some (by kernel_rfl))
  f320 := Tryz.func103.trans (congrArg some (by kernel_rfl))
  f337 := Tryz.func116.trans (congrArg some (by kernel_rfl))
  f338 := Tryz.func117.trans (congrArg some (by kernel_rfl))
  t0 := Tryz.underlying0
  a0 := Tryz.isAgg0
  z0 := Tryz.sizeOf0
  v0 := Tryz.zeroValue0
  t2 := Tryz.underlying2
  a2 := Tryz.isAgg2
  z2 := Tryz.sizeOf2
  v2 := Tryz.zeroValue2
  t3 := Tryz.underlying3
  a3 := Tryz.isAgg3
  z3 := Tryz.sizeOf3
  v3 := Tryz.zeroValue3
  t4 := Tryz.underlying4
  a4 := Tryz.isAgg4
  z4 := Tryz.sizeOf4
  v4 := Tryz.zeroValue4
  t5 := Tryz.underlying5
  a5 := Tryz.isAgg5
  z5 := Tryz.sizeOf5
  v5 := Tryz.zeroValue5
  t9 := Tryz.underlying9
  a9 := Tryz.isAgg9
  z9 := Tryz.sizeOf9
  v9 := Tryz.zeroValue9
  t20 := Tryz.underlying20
  a20 := Tryz.isAgg20
  z20 := Tryz.sizeOf20
  v20 := Tryz.zeroValue20
  t37 := Tryz.underlying38
  a37 := Tryz.isAgg38
  z37 := Tryz.sizeOf38
  v37 := Tryz.zeroValue38
  t46 := Tryz.underlying149
  a46 := Tryz.isAgg149
  z46 := Tryz.sizeOf149
  v46 := Tryz.zeroValue149
  t51 := Tryz.underlying146
  a51 := Tryz.isAgg146
  z51 := Tryz.sizeOf146
  v51 := Tryz.zeroValue146
  t53 := Tryz.underlying125
  a53 := Tryz.isAgg125
  z53 := Tryz.sizeOf125
  v53 := Tryz.zeroValue125
  t171 := Tryz.underlying124
  a171 := Tryz.isAgg124
  z171 := Tryz.sizeOf124
  v171 := Tryz.zeroValue124
  t173 := Tryz.underlying128
  a173 := Tryz.isAgg128
  z173 := Tryz.sizeOf128
  v173 := Tryz.zeroValue128
  t212 := Tryz.underlying145
  a212 := Tryz.isAgg145
  z212 := Tryz.sizeOf145
  v212 := Tryz.zeroValue145
  t213 := Tryz.underlying147
  a213 := Tryz.isAgg147
  z213 := Tryz.sizeOf147
  t232 := Tryz.underlying161
  a232 := Tryz.isAgg161
  z232 := Tryz.sizeOf161
  v232 := Tryz.zeroValue161
  t233 := Tryz.underlying162
  a233 := Tryz.isAgg162
  z233 := Tryz.sizeOf162
  v233 := Tryz.zeroValue162
  g17 := by kernel_rfl
  g18 := by kernel_rfl
  g19 := by kernel_rfl
  i0 := by kernel_rfl
  i2 := by kernel_rfl
  i3 := by kernel_rfl
  i4 := by kernel_rfl
  i5 := by kernel_rfl
  i9 := by kernel_rfl
  i20 := by kernel_rfl
  i37 := by kernel_rfl
  i46 := by kernel_rfl
  i51 := by kernel_rfl
  i53 := by kernel_rfl
  i171 := by kernel_rfl
  i173 := by kernel_rfl
  i212 := by kernel_rfl
  i232 := by kernel_rfl
  i233 := by kernel_rfl
  m17 := by kernel_rfl
  m18 := by kernel_rfl
  m19 := by kernel_rfl }
end Go.Proofs.YtnmmhihfnphjeaaGreatDoor

set_option linter.unusedSimpArgs false
namespace Go.Proofs.YtnmmhihfnphjeaaGreatDoor
set_option linter.unusedVariables false
open Go.RowKit Go.Tx Go.Sort

theorem addr_add (b off i : Nat) : (⟨b, off, none⟩ : Addr).add i = ⟨b, off + i, none⟩ := by unfold Addr.add; split <;> simp_all
theorem cellLater {w wx : World} {a : Addr} {v : Value} (hb : Below w.heap.size w wx) (h : w.cell? a = some v) : wx.cell? a = some v := (hb.cell (World.block_lt_of_cell? _ _ h)).trans h
theorem step {w W v : World} (h : Below w.heap.size w W) (k : Below W.heap.size W v) : Below w.heap.size w v := h.trans (k.mono h.size)
theorem setCellDrewN (w : World) (n : Nat) (a : Addr) (v : Value) : (w.drewN n).setCell a v = (w.setCell a v).drewN n := rfl
theorem allocDrewN (w : World) (n : Nat) (o : Obj) : (w.drewN n).alloc o = (w.alloc o).drewN n := rfl
theorem belDrewN (w : World) : ∀ n, Below w.heap.size w (w.drewN n)
  | 0 => Below.refl _ _
  | n + 1 => (belDrewN w n).drew

/-- A slice of texts that is there. -/
structure SRow (w : World) (a : Option Addr) (len cap : Nat) (ss : List (List UInt8)) : Prop where
  n : ss.length = len
  nil : a = none → len = 0
  cell : ∀ x, a = some x → ∀ j v, (ss.map encStr)[j]? = some v → w.cell? (x.add j) = some v

theorem infoS : Tryz.prog.info? 9 = some Tryz.t9 := by kernel_rfl
theorem sizeS : (Tryz.prog.info? 9).map (·.size) = some 1 := by kernel_rfl

theorem enc_one (ss : List (List UInt8)) : ∀ u ∈ ss.map encStr, u.oneCell' = true := by
  intro u hu
  simp at hu
  obtain ⟨z, _, rfl⟩ := hu
  rfl

theorem SRow.at_ {w : World} {a : Option Addr} {len cap : Nat} {ss : List (List UInt8)} (h : SRow w a len cap ss) (h0 : 0 < len) : ∃ b off, a = some ⟨b, off, none⟩ ∧ ∀ (i : Nat) (hi : i < len), w.cell? ⟨b, off + i, none⟩ = some (.string (str (ss.getD i []))) := by
  cases a with
  | none => have := h.nil rfl; omega
  | some x =>
    obtain ⟨b, off, spot⟩ := x
    have hk : ∀ (i : Nat) (hi : i < len), w.cell? ((⟨b, off, spot⟩ : Addr).add i) = some (.string (str (ss.getD i []))) := by
      intro i hi
      have hl : i < ss.length := by rw [h.n]; exact hi
      have := h.cell _ rfl i (encStr ss[i]) (by simp [List.getElem?_eq_getElem hl])
      rw [this]
      simp [List.getD, List.getElem?_eq_getElem hl, encStr, str]
    have hspot : spot = none := by simpa [Addr.add] using World.cell?_spot (hk 0 h0)
    subst hspot
    exact ⟨b, off, rfl, fun i hi => by have := hk i hi; rw [addr_add] at this; exact this⟩

theorem SRow.later {w w' : World} {a : Option Addr} {len cap : Nat} {ss : List (List UInt8)} (h : SRow w a len cap ss) (hb : Below w.heap.size w w') : SRow w' a len cap ss :=
  ⟨h.n, h.nil, fun x e j v hj => cellLater hb (h.cell x e j v hj)⟩

theorem own_row {w : World} {B g n cap : Nat} {ts : List (List UInt8)} (h : w.ownsRow B 9 1 (.slice (some ⟨g, 0, none⟩) n cap) n (ts.map encStr)) : SRow w (some ⟨g, 0, none⟩) n cap ts :=
  ⟨by have := h.1; simpa using this, (fun e => nomatch e), fun x e j v hj => (show (⟨g, 0, none⟩ : Addr) = x by simpa using e) ▸ h.cells rfl j v hj⟩

theorem app_run {w : World} {B n : Nat} {v : Value} {ts : List (List UInt8)} (ty : TypeId) (hown : w.ownsRow B 9 1 v n (ts.map encStr)) (ad : Option Addr) (m c : Nat) (us : List (List UInt8)) (hs : SRow w ad m c us) (hn : n + m ≤ 10000) (hb : B ≤ w.heap.size) :
    ∃ v' w', (Builtin.append_ #[25, 25] ty #[v, .slice ad m c]).run Tryz.prog w = .ok v' w' ∧ w'.ownsRow B 9 1 v' (n + m) ((ts ++ us).map encStr) ∧ w.grownBy w' v.ownBlock ∧ (v'.ownBlock = v.ownBlock ∨ v'.ownBlock = some w.heap.size) := by
  have ht : Tryz.prog.underlying 25 = some (.slice 9) := Tryz.underlying25
  cases ad with
  | some x =>
    obtain ⟨v', w', h1, h2, h3, _, h5⟩ := run_append_own_at (P := Tryz.prog) w B 25 ty 9 Tryz.t9 (.string ⟨#[]⟩) 1 16 ht infoS rfl rfl rfl rfl (by decide) v n (ts.map encStr) hown x m c (us.map encStr) (by simp [hs.n]) (hs.cell x rfl) (enc_one us) (by unfold maxLen; omega) (by omega) hb
    exact ⟨v', w', h1, by rw [List.map_append]; exact h2, h3, h5⟩
  | none =>
    obtain rfl := hs.nil rfl
    have hu : us = [] := List.eq_nil_of_length_eq_zero hs.n
    subst hu
    refine ⟨v, w, ?_, by simpa using hown, ⟨rfl, rfl, rfl, Nat.le_refl _, fun _ _ _ => rfl⟩, .inl rfl⟩
    rcases hown.2 with ⟨rfl, rfl⟩ | ⟨g, cap, cur, rfl, _, hg, hnc, _, _, _⟩
    · simp [Builtin.append_, run_underlying ht, sizeOf, typeInfo, infoS, Builtin.lenOf, Builtin.firstCells, loadCells, loadCellsFrom]
    · simp [Builtin.append_, run_underlying ht, sizeOf, typeInfo, infoS, Builtin.lenOf, Builtin.firstCells, loadCells, loadCellsFrom, hnc, storeCells]

/-- At the operation. -/
theorem wp_app {w : World} {o : Oper} {a : Act} {K : Act → World → Prop} {Q : Exit → Act → World → Prop} (s x : Operand) (ho : o.op = .call { callee := .builtin .append, args := #[s, x], argTypes := #[25, 25] })
    (B n : Nat) (v : Value) (ts : List (List UInt8)) (ad : Option Addr) (m c : Nat) (us : List (List UInt8)) (hv : a.eval s = v) (hx : a.eval x = .slice ad m c) (hown : w.ownsRow B 9 1 v n (ts.map encStr)) (hs : SRow w ad m c us) (hn : n + m ≤ 10000) (hb : B ≤ w.heap.size)
    (h : ∀ v' w', w'.ownsRow B 9 1 v' (n + m) ((ts ++ us).map encStr) → w.grownBy w' v.ownBlock → (v'.ownBlock = v.ownBlock ∨ v'.ownBlock = some w.heap.size) → K (a.put o.dst v') w') : o.wp Tryz.prog a w K Q := by
  obtain ⟨v', w', hr, h2, h3, h4⟩ := app_run o.type hown ad m c us hs hn hb
  unfold Oper.wp execOp
  simp only [ho, resolve, invoke, builtin, Sem.run_bind, Sem.run_pure, Result.andThen_ok, List.map_toArray, List.map_cons, List.map_nil, hv, hx, hr]
  exact h v' w' h2 h3 h4

theorem step_app {w : World} {ops : Array Oper} {o : Oper} {a : Act} {K : Act → World → Prop} {Q : Exit → Act → World → Prop} {E : Prop} (hw : Region.wanted o (yielded ops a.tmps) = true) (s x : Operand) (ho : o.op = .call { callee := .builtin .append, args := #[s, x], argTypes := #[25, 25] })
    (B n : Nat) (v : Value) (ts : List (List UInt8)) (ad : Option Addr) (m c : Nat) (us : List (List UInt8)) (hv : a.eval s = v) (hx : a.eval x = .slice ad m c) (hown : w.ownsRow B 9 1 v n (ts.map encStr)) (hs : SRow w ad m c us) (hn : n + m ≤ 10000) (hb : B ≤ w.heap.size)
    (h : ∀ v' w', w'.ownsRow B 9 1 v' (n + m) ((ts ++ us).map encStr) → w.grownBy w' v.ownBlock → (v'.ownBlock = v.ownBlock ∨ v'.ownBlock = some w.heap.size) → K (a.put o.dst v') w') :
    if Region.wanted o (yielded ops a.tmps) = true then Oper.wp Tryz.prog o a w K Q else E := by
  rw [if_pos hw]
  exact wp_app s x ho B n v ts ad m c us hv hx hown hs hn hb h

theorem wpList_app {w : World} {ops : Array Oper} {rest : List Oper} {o : Oper} {a : Act} {Q : Exit → Act → World → Prop} (hw : Region.wanted o (yielded ops a.tmps) = true) (s x : Operand) (ho : o.op = .call { callee := .builtin .append, args := #[s, x], argTypes := #[25, 25] })
    (B n : Nat) (v : Value) (ts : List (List UInt8)) (ad : Option Addr) (m c : Nat) (us : List (List UInt8)) (hv : a.eval s = v) (hx : a.eval x = .slice ad m c) (hown : w.ownsRow B 9 1 v n (ts.map encStr)) (hs : SRow w ad m c us) (hn : n + m ≤ 10000) (hb : B ≤ w.heap.size)
    (h : ∀ v' w', w'.ownsRow B 9 1 v' (n + m) ((ts ++ us).map encStr) → w.grownBy w' v.ownBlock → (v'.ownBlock = v.ownBlock ∨ v'.ownBlock = some w.heap.size) → wpList Tryz.prog ops Q rest (a.put o.dst v') w') : wpList Tryz.prog ops Q (o :: rest) a w :=
  wpList_step fun K hK => step_app hw s x ho B n v ts ad m c us hv hx hown hs hn hb fun v' w' h1 h2 h3 => hK _ _ (h v' w' h1 h2 h3)

theorem own_at {w : World} {B n : Nat} {v : Value} {ts : List (List UInt8)} (h : w.ownsRow B 9 1 v n (ts.map encStr)) (h0 : 0 < n) : ∃ g cap, v = .slice (some ⟨g, 0, none⟩) n cap ∧ B ≤ g ∧ n ≤ cap ∧ cap ≤ maxLen ∧ ∀ i, i < n → w.cell? ⟨g, i, none⟩ = some (.string (str (ts.getD i []))) := by
  rcases h.2 with ⟨_, hn⟩ | ⟨g, cap, cur, rfl, hb, hg, hnc, hcm, _⟩
  · omega
  · obtain ⟨b, off, e, hc⟩ := (own_row h).at_ h0
    simp only [Option.some.injEq, Addr.mk.injEq, and_true] at e
    obtain ⟨rfl, rfl⟩ := e
    exact ⟨g, cap, rfl, hb, hnc, hcm, fun i hi => by have := hc i hi; rwa [Nat.zero_add] at this⟩

theorem fresh_own {w : World} {B g : Nat} (hg : w.heap[g]? = some (.cells #[] 9 (0, 0))) (hb : B ≤ g) : w.ownsRow B 9 1 (.slice (some ⟨g, 0, none⟩) 0 0) 0 (([] : List (List UInt8)).map encStr) :=
  ⟨rfl, .inr ⟨g, 0, #[], rfl, hb, hg, Nat.le_refl _, Nat.zero_le _, rfl, rfl⟩⟩

theorem one_row {w : World} {h c : Nat} {x : List UInt8} (hc : w.cell? ⟨h, 0, none⟩ = some (.string (str x))) : SRow w (some ⟨h, 0, none⟩) 1 c [x] := by
  refine ⟨rfl, (fun e => nomatch e), fun y e j v hj => ?_⟩
  obtain rfl : ⟨h, 0, none⟩ = y := by simpa using e
  cases j with
  | zero =>
    simp at hj
    subst hj
    rw [addr_add]
    exact hc
  | succ j => simp at hj

theorem own_pre {w : World} {B g n cap : Nat} {ts : List (List UInt8)} (h : w.ownsRow B 9 1 (.slice (some ⟨g, 0, none⟩) n cap) n (ts.map encStr)) (j c : Nat) (hj : j ≤ n) : SRow w (some ⟨g, 0, none⟩) j c (ts.take j) := by
  have hr := own_row h
  have hn := hr.n
  refine ⟨by rw [List.length_take, hn]; omega, (fun e => nomatch e), fun x e i v hi => hr.cell x e i v ?_⟩
  rw [List.map_take, List.getElem?_take] at hi
  split at hi
  · exact hi
  · cases hi

theorem own_suf {w : World} {B g n cap : Nat} {ts : List (List UInt8)} (h : w.ownsRow B 9 1 (.slice (some ⟨g, 0, none⟩) n cap) n (ts.map encStr)) (j c : Nat) (hj : j ≤ n) : SRow w (some ⟨g, j, none⟩) (n - j) c (ts.drop j) := by
  have hr := own_row h
  have hn := hr.n
  refine ⟨by rw [List.length_drop, hn], (fun e => nomatch e), fun x e i v hi => ?_⟩
  obtain rfl : ⟨g, j, none⟩ = x := by simpa using e
  rw [List.map_drop, List.getElem?_drop] at hi
  have := hr.cell _ rfl (j + i) v hi
  rw [addr_add] at this ⊢
  simpa using this

theorem bel_app {B : Nat} {a w w' : World} {T : TypeId} {v : Value} {n : Nat} {xs : List Value} (h : Below B a w) (ho : w.ownsRow B T 1 v n xs) (hg : w.grownBy w' v.ownBlock) (hB : B ≤ w.heap.size) : Below B a w' := h.grown hg hB (fun k e => (ho.lt k e).1)

theorem at_new (w : World) (o : Obj) (n : Nat) (h : n = w.heap.size) : (w.alloc o).heap[n]? = some o := by subst h; exact heap_alloc_new w o
theorem at_old (w : World) (o : Obj) (n : Nat) (h : n < w.heap.size) {r : Option Obj} (hr : w.heap[n]? = r) : (w.alloc o).heap[n]? = r := (Below.heap_alloc w o n h).trans hr

theorem own_form {w : World} {B n : Nat} {v : Value} {ts : List (List UInt8)} (h : w.ownsRow B 9 1 v n (ts.map encStr)) : (v = .slice none 0 0 ∧ n = 0) ∨ ∃ g cap, v = .slice (some ⟨g, 0, none⟩) n cap ∧ B ≤ g ∧ n ≤ cap ∧ cap ≤ maxLen ∧ ∀ i, i < n → w.cell? ⟨g, i, none⟩ = some (.string (str (ts.getD i []))) := by
  rcases h.2 with h' | ⟨g, cap, cur, rfl, hb, hg, hnc, hcm, _⟩
  · exact .inl h'
  · refine .inr ⟨g, cap, rfl, hb, hnc, hcm, fun i hi => ?_⟩
    obtain ⟨b, off, e, hc⟩ := (own_row h).at_ (by omega)
    simp only [Option.some.injEq, Addr.mk.injEq, and_true] at e
    obtain ⟨rfl, rfl⟩ := e
    have := hc i hi
    rwa [Nat.zero_add] at this

theorem own_tail {w : World} {B g n cap : Nat} {ts : List (List UInt8)} (h : w.ownsRow B 9 1 (.slice (some ⟨g, 0, none⟩) n cap) n (ts.map encStr)) (j c : Nat) (hj : j ≤ n) (hc : n ≤ cap) : SRow w (if cap = j then some ⟨g, 0, none⟩ else some ⟨g, j, none⟩) (n - j) c (ts.drop j) := by
  by_cases e : cap = j
  · rw [if_pos e]
    have hn := (own_row h).n
    have hd : ts.drop j = [] := List.drop_eq_nil_of_le (by omega)
    rw [hd]
    exact ⟨by simp; omega, (fun e => nomatch e), fun x _ i v hi => by simp at hi⟩
  · rw [if_neg e]
    exact own_suf h j c hj

theorem own_mono {w : World} {B B' n : Nat} {T : TypeId} {v : Value} {xs : List Value} (h : w.ownsRow B T 1 v n xs) (hb : B' ≤ B) : w.ownsRow B' T 1 v n xs := by
  refine ⟨h.1, ?_⟩
  rcases h.2 with h' | ⟨g, cap, cur, e, h1, h2⟩
  · exact .inl h'
  · exact .inr ⟨g, cap, cur, e, Nat.le_trans hb h1, h2⟩

theorem none_row (w : World) : SRow w none 0 0 [] := ⟨rfl, fun _ => rfl, fun _ e => nomatch e⟩

end Go.Proofs.YtnmmhihfnphjeaaGreatDoor

namespace Go.Tx
set_option linter.unusedVariables false

theorem dg_val (n : Nat) (h : n < 10) : ((dg n).toNat : Int) = 48 + n := by
  unfold dg; rw [UInt8.toNat_ofNat']; omega
theorem dg_dig (n : Nat) (h : n < 10) : isDig (dg n) = true := by
  have := dg_val n h
  simp [isDig]; omega

theorem digF_dig : ∀ f n, (digF f n).all isDig = true
  | 0, _ => rfl
  | f + 1, n => by
    rw [digF]
    by_cases h : n < 10
    · rw [if_pos h]; simp [dg_dig n h]
    · rw [if_neg h, List.all_append, digF_dig f (n / 10)]
      simp [dg_dig (n % 10) (by omega)]

theorem digF_val : ∀ f n, n < 10 ^ (f + 1) → numVal (digF (f + 1) n) = n
  | 0, n, h => by
    have h10 : n < 10 := by simpa using h
    rw [digF, if_pos h10]
    simp [numVal, dg_val n h10]; omega
  | f + 1, n, h => by
    rw [digF]
    by_cases h10 : n < 10
    · rw [if_pos h10]; simp [numVal, dg_val n h10]; omega
    · rw [if_neg h10, numVal_snoc, digF_val f (n / 10) (by rw [Nat.pow_succ] at h; omega), dg_val (n % 10) (by omega)]
      omega

theorem digF_ne : ∀ f n, digF (f + 1) n ≠ []
  | f, n => by
    rw [digF]
    by_cases h10 : n < 10
    · rw [if_pos h10]; simp
    · rw [if_neg h10]; simp

theorem digF_head : ∀ f n, 1 ≤ n → n < 10 ^ (f + 1) → ∃ c, (digF (f + 1) n).head? = some c ∧ c ≠ 48
  | f, n, h1, h => by
    by_cases h10 : n < 10
    · rw [digF, if_pos h10]
      refine ⟨dg n, rfl, fun e => ?_⟩
      have := dg_val n h10
      rw [e] at this
      have h48 : ((48 : UInt8).toNat : Int) = 48 := rfl
      omega
    · cases f with
      | zero => simp at h; omega
      | succ f =>
        obtain ⟨c, hc, hne⟩ := digF_head f (n / 10) (by omega) (by rw [Nat.pow_succ] at h; omega)
        rw [digF, if_neg h10]
        refine ⟨c, ?_, hne⟩
        rw [List.head?_append, hc]; rfl

theorem dig_len (n : Nat) : 1 ≤ (digF 9 n).length ∧ (digF 9 n).length ≤ 9 := by
  have h1 := digF_len 9 n
  have h2 : (digF 9 n).length ≠ 0 := fun e => digF_ne 8 n (List.eq_nil_of_length_eq_zero e)
  omega

theorem dig_ok (n : Nat) (h : n < 1000000000) : okNum (digF 9 n) = true ∧ numR (digF 9 n) = n ∧ okNum (48 :: digF 9 n) = false := by
  have h' : n < 10 ^ (8 + 1) := by simpa using h
  obtain ⟨hl1, hl2⟩ := dig_len n
  have hd := digF_dig 9 n
  have hz : (decide (1 < (digF 9 n).length) && ((digF 9 n).head? == some 48)) = false := by
    by_cases h0 : n = 0
    · subst h0; decide
    · obtain ⟨c, hc, hne⟩ := digF_head 8 n (by omega) h'
      rw [hc]; simp [hne]
  have hok : okNum (digF 9 n) = true := by
    unfold okNum; rw [hz, hd]; simp [hl1, hl2]
  refine ⟨hok, ?_, ?_⟩
  · rw [numR, if_pos hok]; exact digF_val 8 n h'
  · unfold okNum
    have : decide (1 < (48 :: digF 9 n).length) = true := by simp; omega
    rw [this]; simp

end Go.Tx
