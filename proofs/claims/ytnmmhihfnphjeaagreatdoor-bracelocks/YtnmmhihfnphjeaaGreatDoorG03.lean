/-
  Contracts of Number, the reference's Number and Digits.
  Plain mathematics of places: lines and columns.
  The library's functions that package text calls, by the shelf's contracts, laid at this program.
  Contracts of the mark and of the cursor.
  Contracts of places: the mark's, the package's, the reference's.
-/
import Derived.Test.YtnmmhihfnphjeaaGreatDoorG02
import Derived.Test.YtnmmhihfnphjeaaGreatDoorG01
import Derived.Lib.LastIndexByte
import Derived.Lib.Bytealg
import Derived.Test.YtnmmhihfnphjeaaGreatDoorProg
import Derived.Shelf.Strings.Builder1
import Derived.Shelf.Strings.Count
import Derived.Shelf.Strings.LastIndex
import Derived.Shelf.Strings.Prefix
import Derived.Deep.RegionWith
import Derived.Deep.RegionHeld3
import Derived.Deep.DrawnRows
import Derived.Deep.QuietTactic
import Derived.BigQuiet
import Derived.Lib.SmallJoins

namespace Go.Proofs.YtnmmhihfnphjeaaGreatDoor.W
set_option linter.unusedVariables false
open Go.RowKit

theorem ret_num {a b : Int} {c d : Bool} (h : a = b) (k : c = d) : Ending.returned (.tuple #[.int .i64 a, .bool c]) = .returned (.tuple #[.int .i64 b, .bool d]) := by rw [h, k]

set_option maxHeartbeats 400000 in
theorem number_any (s : ByteArray) (w : World) (hs : s.size ≤ maxLen) :
    Calls Tryz.prog 96 #[.string s] w fun e w' => e = .returned (.tuple #[.int .i64 (Tx.numR s.data.toList), .bool (Tx.okNum s.data.toList)]) ∧ w' = w := by
  unfold maxLen at hs
  by_cases h1 : s.size < 1
  · have HF : Hid (Tx.okNum s.data.toList = false) := Tx.okNum_short s h1
    have hd : decide ((s.size : Int) < 1) = true := by simp; omega
    go_enter Tryz.func96, Tryz.ntmps96
    go_wp2
    go_ret2
    exact ⟨ret_num (by simp [Tx.numR, HF.out]) HF.out.symm, rfl⟩
  have d1 : decide ((s.size : Int) < 1) = false := by simp; omega
  by_cases h9 : 9 < s.size
  · have HF : Hid (Tx.okNum s.data.toList = false) := Tx.okNum_long s h9
    have hd : decide ((9 : Int) < s.size) = true := by simp; omega
    go_enter Tryz.func96, Tryz.ntmps96
    go_wp2
    go_ret2
    exact ⟨ret_num (by simp [Tx.numR, HF.out]) HF.out.symm, rfl⟩
  have d9 : decide ((9 : Int) < s.size) = false := by simp; omega
  by_cases hz : 1 < s.size ∧ ((s[0]).toNat : Int) = 48
  · obtain ⟨hz1, hz2⟩ := hz
    have HF : Hid (Tx.okNum s.data.toList = false) := Tx.okNum_zero s hz1 hz2
    have dz : decide ((1 : Int) < s.size) = true := by simp; omega
    have dy : (((s[0]).toNat : Int) == 48) = true := by simpa using hz2
    clear hz2
    go_enter Tryz.func96, Tryz.ntmps96
    go_wp2
    go_ret2
    exact ⟨ret_num (by simp [Tx.numR, HF.out]) HF.out.symm, rfl⟩
  have HE : Hid (Tx.okNum s.data.toList = s.data.toList.all Tx.isDig) := Tx.okNum_else s (by omega) (by omega) (by
    by_cases h2 : s.size = 1
    · exact .inl h2
    · exact .inr (fun e => hz ⟨by omega, e⟩))
  have H9 : s.size ≤ 9 := by omega
  by_cases hq : 1 < s.size
  case' pos =>
    have dz : decide ((1 : Int) < s.size) = true := by simp; omega
    have dy : (((s[0]).toNat : Int) == 48) = false := by simp; intro e; exact hz ⟨hq, e⟩
    clear hz
  case' neg =>
    have dz : decide ((1 : Int) < s.size) = false := by simp; omega
    clear hz
  all_goals
    go_enter Tryz.func96, Tryz.ntmps96
    go_wp2
    go_loop [4, 26] (fun n i => ∃ k : Nat, k ≤ s.size ∧ i = .int .i64 k ∧ n = .int .i64 (Tx.numVal (s.data.toList.take k)) ∧ Hid ((s.data.toList.take k).all Tx.isDig = true)) (fun _ i => s.size - (RowKit.intOf i).toNat)
    case atStart => exact ⟨0, Nat.zero_le _, rfl, rfl, rfl⟩
    case round =>
      obtain ⟨k, hk, rfl, rfl, hp⟩ := hrel
      obtain ⟨b1, b2⟩ := Tx.numVal_bd9 s k hk (by omega) hp.out
      by_cases hlt : k < s.size
      · have HV : Hid (Tx.numVal (s.data.toList.take (k + 1)) = Tx.numVal (s.data.toList.take k) * 10 + (((s[k]).toNat : Int) - 48)) := Tx.numVal_take s k hlt
        by_cases hg1 : ((s[k]).toNat : Int) < 48
        · have HF : Hid (s.data.toList.all Tx.isDig = false) := Tx.notDig_false s k hlt (by simp [Tx.isDig]; omega)
          go_wp2
          go_ret2
          exact ⟨ret_num (by simp [Tx.numR, HE.out, HF.out]) (by rw [HE.out, HF.out]), rfl⟩
        have e1 : decide (((s[k]).toNat : Int) < 48) = false := by simp; omega
        by_cases hg2 : 57 < ((s[k]).toNat : Int)
        · have HF : Hid (s.data.toList.all Tx.isDig = false) := Tx.notDig_false s k hlt (by simp [Tx.isDig]; omega)
          go_wp2
          go_ret2
          exact ⟨ret_num (by simp [Tx.numR, HE.out, HF.out]) (by rw [HE.out, HF.out]), rfl⟩
        have e2 : decide (57 < ((s[k]).toNat : Int)) = false := by simp; omega
        have HT : Hid ((s.data.toList.take (k + 1)).all Tx.isDig = true) := by
          show List.all _ _ = true
          rw [Tx.digs_take s k hlt, hp.out]; simp [Tx.isDig]; omega
        go_wp2
        go_round
        case rel => exact ⟨k + 1, by omega, by go_num, by rw [HV.out]; try go_num, HT⟩
        case measure => simp [RowKit.intOf]; omega
      · have HT : Hid (s.data.toList.all Tx.isDig = true) := by rw [← Tx.take_all s k (by omega)]; exact hp
        have HN : Hid (Tx.numVal (s.data.toList.take k) = Tx.numVal s.data.toList) := by rw [Tx.take_all s k (by omega)]; rfl
        go_wp2
        go_ret2
        exact ⟨ret_num (by simp [Tx.numR, HE.out, HT.out, HN.out]) (by rw [HE.out, HT.out]), rfl⟩

end Go.Proofs.YtnmmhihfnphjeaaGreatDoor.W

namespace Go.Tx
set_option linter.unusedVariables false

/-- A byte further: the line and the column. -/
def stp (p : Nat × Nat) (c : UInt8) : Nat × Nat := if c = 10 then (p.1 + 1, 1) else (p.1, p.2 + 1)
/-- The line and the column behind a row of bytes. -/
def st (l : List UInt8) : Nat × Nat := l.foldl stp (1, 1)

theorem st_nil : st [] = (1, 1) := rfl
theorem st_snoc (l : List UInt8) (c : UInt8) : st (l ++ [c]) = stp (st l) c := by simp [st]
theorem st_app (l r : List UInt8) : st (l ++ r) = r.foldl stp (st l) := by simp [st]

theorem stp_bd (p : Nat × Nat) (c : UInt8) (n : Nat) (h : 1 ≤ p.1 ∧ p.1 ≤ n + 1 ∧ 1 ≤ p.2 ∧ p.2 ≤ n + 1) : 1 ≤ (stp p c).1 ∧ (stp p c).1 ≤ n + 1 + 1 ∧ 1 ≤ (stp p c).2 ∧ (stp p c).2 ≤ n + 1 + 1 := by
  unfold stp; split <;> simp <;> omega

theorem fold_bd : ∀ (l : List UInt8) (p : Nat × Nat) (n : Nat), (1 ≤ p.1 ∧ p.1 ≤ n + 1 ∧ 1 ≤ p.2 ∧ p.2 ≤ n + 1) → 1 ≤ (l.foldl stp p).1 ∧ (l.foldl stp p).1 ≤ n + l.length + 1 ∧ 1 ≤ (l.foldl stp p).2 ∧ (l.foldl stp p).2 ≤ n + l.length + 1
  | [], p, n, h => by simpa using h
  | c :: l, p, n, h => by
    have := fold_bd l (stp p c) (n + 1) (stp_bd p c n h)
    simp only [List.foldl_cons, List.length_cons]
    omega

theorem st_bd (l : List UInt8) : 1 ≤ (st l).1 ∧ (st l).1 ≤ l.length + 1 ∧ 1 ≤ (st l).2 ∧ (st l).2 ≤ l.length + 1 := by
  have := fold_bd l (1, 1) 0 (by simp)
  simpa [st] using this

theorem cnt_zero (r : ByteArray) : ∀ k, k ≤ r.size → Lib.lastIdx r 10 k < 0 → (r.data.toList.take k).count 10 = 0
  | 0, _, _ => by simp
  | k + 1, h, hn => by
    have hg : r.data[k]! = r[k]'(by omega) := getElem!_pos r.data k (by show k < r.size; omega)
    by_cases hc : r[k]'(by omega) = 10
    · rw [Lib.lastIdx_hit r 10 k (by rw [hg, hc]; rfl)] at hn; omega
    · rw [Lib.lastIdx_miss r 10 k (by rw [hg]; intro e; apply hc; apply UInt8.toNat_inj.1; show _ = 10; omega)] at hn
      have ih := cnt_zero r k (by omega) hn
      rw [take_snoc r k (by omega), List.count_append, ih]
      simp [hc]

/-- What the last line's end in the first k bytes says of the place behind them. -/
theorem last_says (r : ByteArray) (p : Nat × Nat) : ∀ k, k ≤ r.size →
    (Lib.lastIdx r 10 k < 0 → (r.data.toList.take k).foldl stp p = (p.1, p.2 + k)) ∧
    (0 ≤ Lib.lastIdx r 10 k → Lib.lastIdx r 10 k < k ∧ (r.data.toList.take k).foldl stp p = (p.1 + (r.data.toList.take k).count 10, k - (Lib.lastIdx r 10 k).toNat))
  | 0, _ => by simp [Lib.lastIdx]
  | k + 1, h => by
    have ih := last_says r p k (by omega)
    have hg : r.data[k]! = r[k]'(by omega) := getElem!_pos r.data k (by show k < r.size; omega)
    rw [take_snoc r k (by omega), List.foldl_append, List.foldl_cons, List.foldl_nil, List.count_append]
    by_cases hc : r[k]'(by omega) = 10
    · have h1 : Lib.lastIdx r 10 (k + 1) = k := Lib.lastIdx_hit r 10 k (by rw [hg, hc]; rfl)
      rw [h1, hc]
      refine ⟨fun hn => by omega, fun _ => ⟨by omega, ?_⟩⟩
      have hp : ((r.data.toList.take k).foldl stp p).1 = p.1 + (r.data.toList.take k).count 10 := by
        by_cases hn : Lib.lastIdx r 10 k < 0
        · rw [ih.1 hn]
          have := cnt_zero r k (by omega) hn
          omega
        · rw [(ih.2 (by omega)).2]
      simp [stp, hp]
      omega
    · have h1 : Lib.lastIdx r 10 (k + 1) = Lib.lastIdx r 10 k := Lib.lastIdx_miss r 10 k (by
        rw [hg]; intro e; apply hc; apply UInt8.toNat_inj.1; show _ = 10; omega)
      rw [h1]
      refine ⟨fun hn => ?_, fun hn => ⟨by have := (ih.2 hn).1; omega, ?_⟩⟩
      · rw [ih.1 hn]; simp [stp, hc]; omega
      · obtain ⟨h2, h3⟩ := ih.2 hn
        rw [h3]
        simp [stp, hc]
        omega

theorem pass_none (l : List UInt8) (r : ByteArray) (h : Lib.lastIndexByte r 10 < 0) : st (l ++ r.data.toList) = ((st l).1, (st l).2 + r.size) := by
  have := (last_says r (st l) r.size (Nat.le_refl _)).1 h
  rw [take_all r r.size (Nat.le_refl _)] at this
  rw [st_app, this]

theorem pass_some (l : List UInt8) (r : ByteArray) (h : 0 ≤ Lib.lastIndexByte r 10) : Lib.lastIndexByte r 10 < r.size ∧ st (l ++ r.data.toList) = ((st l).1 + Lib.countByte r.data.toList 10, r.size - (Lib.lastIndexByte r 10).toNat) := by
  have := (last_says r (st l) r.size (Nat.le_refl _)).2 h
  rw [take_all r r.size (Nat.le_refl _)] at this
  rw [st_app]
  exact this

theorem count_le (r : ByteArray) : Lib.countByte r.data.toList 10 ≤ r.size := by
  have := List.count_le_length (a := (10 : UInt8)) (l := r.data.toList)
  rw [len_eq] at this
  exact this

end Go.Tx

namespace Go.Proofs.YtnmmhihfnphjeaaGreatDoor.W
set_option linter.unusedVariables false
open Go.Shelf Go.RowKit

def Tryz.lays99_ren : Go.Shelf.Ren := ⟨fun | 99 => 93 | 206 => 112 | n => n, fun | 3 => 3 | 4 => 4 | 9 => 9 | n => n, fun | 1 => 0 | 17 => 1 | 18 => 2 | 19 => 3 | n => n⟩
theorem Tryz.lays99 : Go.Proofs.Lays.n99 Tryz.prog Tryz.lays99_ren := {
  mixed := by kernel_rfl
  f99 := Tryz.func93.trans (congrArg some (by kernel_rfl))
  f206 := Tryz.func112.trans (congrArg some (by kernel_rfl))
  t3 := Tryz.underlying3
  a3 := Tryz.isAgg3
  z3 := Tryz.sizeOf3
  v3 := Tryz.zeroValue3
  t4 := Tryz.underlying4
  a4 := Tryz.isAgg4
  z4 := Tryz.sizeOf4
  v4 := Tryz.zeroValue4
  t9 := Tryz.underlying9
  a9 := Tryz.isAgg9
  z9 := Tryz.sizeOf9
  v9 := Tryz.zeroValue9 }
def Tryz.lays149_ren : Go.Shelf.Ren := ⟨fun | 149 => 58 | 222 => 69 | n => n, fun | 3 => 3 | 4 => 4 | 5 => 5 | 9 => 9 | n => n, fun | 1 => 0 | 17 => 1 | 18 => 2 | 19 => 3 | n => n⟩
theorem Tryz.lays149 : Go.Proofs.Lays.n149 Tryz.prog Tryz.lays149_ren := {
  mixed := by kernel_rfl
  f149 := Tryz.func58.trans (congrArg some (by kernel_rfl))
  f222 := Tryz.func69.trans (congrArg some (by kernel_rfl))
  t3 := Tryz.underlying3
  a3 := Tryz.isAgg3
  z3 := Tryz.sizeOf3
  v3 := Tryz.zeroValue3
  t4 := Tryz.underlying4
  a4 := Tryz.isAgg4
  z4 := Tryz.sizeOf4
  v4 := Tryz.zeroValue4
  t5 := Tryz.underlying5
  a5 := Tryz.isAgg5
  z5 := Tryz.sizeOf5
  v5 := Tryz.zeroValue5
  t9 := Tryz.underlying9
  a9 := Tryz.isAgg9
  z9 := Tryz.sizeOf9
  v9 := Tryz.zeroValue9 }
def Tryz.lays138_ren : Go.Shelf.Ren := ⟨fun | 138 => 59 | 143 => 72 | 195 => 70 | 217 => 104 | 218 => 71 | 219 => 85 | 224 => 106 | 225 => 105 | 266 => 118 | 267 => 107 | 314 => 119 | n => n, fun | 0 => 0 | 3 => 3 | 4 => 4 | 5 => 5 | 9 => 9 | 46 => 149 | 51 => 146 | 146 => 157 | n => n, fun | 1 => 0 | 17 => 1 | 18 => 2 | 19 => 3 | n => n⟩
theorem Tryz.lays138 : Go.Proofs.Lays.n138 Tryz.prog Tryz.lays138_ren := {
  mixed := by kernel_rfl
  f138 := Tryz.func59.trans (congrArg some (by kernel_rfl))
  f143 := Tryz.func72.trans (congrArg some (by kernel_rfl))
  f195 := Tryz.func70.trans (congrArg some (by kernel_rfl))
  f217 := Tryz.func104.trans (congrArg some (by kernel_rfl))
  f218 := Tryz.func71.trans (congrArg some (by kernel_rfl))
  f219 := Tryz.func85.trans (congrArg some (by kernel_rfl))
  f224 := Tryz.func106.trans (congrArg some (by kernel_rfl))
  f225 := Tryz.func105.trans (congrArg some (by kernel_rfl))
  f266 := Tryz.func118.trans (congrArg some (by kernel_rfl))
  f267 := Tryz.func107.trans (congrArg some (by kernel_rfl))
  f314 := Tryz.func119.trans (congrArg some (by kernel_rfl))
  t0 := Tryz.underlying0
  a0 := Tryz.isAgg0
  z0 := Tryz.sizeOf0
  v0 := Tryz.zeroValue0
  t3 := Tryz.underlying3
  a3 := Tryz.isAgg3
  z3 := Tryz.sizeOf3
  v3 := Tryz.zeroValue3
  t4 := Tryz.underlying4
  a4 := Tryz.isAgg4
  z4 := Tryz.sizeOf4
  v4 := Tryz.zeroValue4
  t5 := Tryz.underlying5
  a5 := Tryz.isAgg5
  z5 := Tryz.sizeOf5
  v5 := Tryz.zeroValue5
  t9 := Tryz.underlying9
  a9 := Tryz.isAgg9
  z9 := Tryz.sizeOf9
  v9 := Tryz.zeroValue9
  t46 := Tryz.underlying149
  a46 := Tryz.isAgg149
  z46 := Tryz.sizeOf149
  v46 := Tryz.zeroValue149
  t51 := Tryz.underlying146
  a51 := Tryz.isAgg146
  z51 := Tryz.sizeOf146
  v51 := Tryz.zeroValue146
  t146 := Tryz.underlying157
  a146 := Tryz.isAgg157
  z146 := Tryz.sizeOf157
  v146 := Tryz.zeroValue157
  g1 := by kernel_rfl }
def Tryz.lays169_ren : Go.Shelf.Ren := ⟨fun | 169 => 23 | n => n, fun | 0 => 0 | 3 => 3 | 5 => 5 | 9 => 9 | 37 => 38 | 70 => 54 | 72 => 56 | 127 => 81 | n => n, fun | 1 => 0 | 17 => 1 | 18 => 2 | 19 => 3 | n => n⟩
theorem Tryz.lays169 : Go.Proofs.Lays.n169 Tryz.prog Tryz.lays169_ren := {
  mixed := by kernel_rfl
  f169 := Tryz.func23.trans (congrArg some (by kernel_rfl))
  t0 := Tryz.underlying0
  a0 := Tryz.isAgg0
  z0 := Tryz.sizeOf0
  v0 := Tryz.zeroValue0
  t3 := Tryz.underlying3
  a3 := Tryz.isAgg3
  z3 := Tryz.sizeOf3
  v3 := Tryz.zeroValue3
  t9 := Tryz.underlying9
  a9 := Tryz.isAgg9
  z9 := Tryz.sizeOf9
  v9 := Tryz.zeroValue9
  t37 := Tryz.underlying38
  a37 := Tryz.isAgg38
  z37 := Tryz.sizeOf38
  v37 := Tryz.zeroValue38
  t70 := Tryz.underlying54
  a70 := Tryz.isAgg54
  z70 := Tryz.sizeOf54
  v70 := Tryz.zeroValue54
  t72 := Tryz.underlying56
  a72 := Tryz.isAgg56
  z72 := Tryz.sizeOf56
  v72 := Tryz.zeroValue56
  t127 := Tryz.underlying81
  a127 := Tryz.isAgg81
  z127 := Tryz.sizeOf81
  v127 := Tryz.zeroValue81 }
def Tryz.lays167_ren : Go.Shelf.Ren := ⟨fun | 167 => 54 | 240 => 53 | 276 => 67 | n => n, fun | 0 => 0 | 4 => 4 | 5 => 5 | 9 => 9 | 20 => 20 | 37 => 38 | 70 => 54 | 72 => 56 | 75 => 76 | 80 => 58 | 164 => 117 | n => n, fun | 1 => 0 | 17 => 1 | 18 => 2 | 19 => 3 | n => n⟩
theorem Tryz.lays167 : Go.Proofs.Lays.n167 Tryz.prog Tryz.lays167_ren := {
  mixed := by kernel_rfl
  f167 := Tryz.func54.trans (congrArg some (by kernel_rfl))
  f240 := Tryz.func53.trans (congrArg some (by kernel_rfl))
  f276 := Tryz.func67.trans (congrArg some (by kernel_rfl))
  t0 := Tryz.underlying0
  a0 := Tryz.isAgg0
  z0 := Tryz.sizeOf0
  v0 := Tryz.zeroValue0
  t4 := Tryz.underlying4
  a4 := Tryz.isAgg4
  z4 := Tryz.sizeOf4
  v4 := Tryz.zeroValue4
  t5 := Tryz.underlying5
  a5 := Tryz.isAgg5
  z5 := Tryz.sizeOf5
  v5 := Tryz.zeroValue5
  t9 := Tryz.underlying9
  a9 := Tryz.isAgg9
  z9 := Tryz.sizeOf9
  v9 := Tryz.zeroValue9
  t20 := Tryz.underlying20
  a20 := Tryz.isAgg20
  z20 := Tryz.sizeOf20
  v20 := Tryz.zeroValue20
  t37 := Tryz.underlying38
  a37 := Tryz.isAgg38
  z37 := Tryz.sizeOf38
  v37 := Tryz.zeroValue38
  t70 := Tryz.underlying54
  a70 := Tryz.isAgg54
  z70 := Tryz.sizeOf54
  v70 := Tryz.zeroValue54
  t72 := Tryz.underlying56
  a72 := Tryz.isAgg56
  z72 := Tryz.sizeOf56
  v72 := Tryz.zeroValue56
  t75 := Tryz.underlying76
  a75 := Tryz.isAgg76
  z75 := Tryz.sizeOf76
  v75 := Tryz.zeroValue76
  t164 := Tryz.underlying117
  a164 := Tryz.isAgg117
  z164 := Tryz.sizeOf117
  v164 := Tryz.zeroValue117 }
theorem Tryz.extra169 : Builder.Extra Tryz.prog Tryz.lays169_ren := {
  sizeBuilder := by kernel_rfl
  liesBuilder := by kernel_rfl
  t5 := Tryz.underlying5
  a5 := Tryz.isAgg5
  z5 := Tryz.sizeOf5
  v5 := Tryz.zeroValue5
  infoByte := by kernel_rfl
  cellsByte := by kernel_rfl
  sizeByte := by kernel_rfl
  neB5 := by decide }
theorem Tryz.extra167 : Builder.Extra Tryz.prog Tryz.lays167_ren := {
  sizeBuilder := by kernel_rfl
  liesBuilder := by kernel_rfl
  t5 := Tryz.underlying5
  a5 := Tryz.isAgg5
  z5 := Tryz.sizeOf5
  v5 := Tryz.zeroValue5
  infoByte := by kernel_rfl
  cellsByte := by kernel_rfl
  sizeByte := by kernel_rfl
  neB5 := by decide }

/-- strings.HasPrefix. -/
theorem hasPrefix_any (s p : ByteArray) (w : World) :
    Calls Tryz.prog 93 #[.string s, .string p] w fun e w' => e = .returned (.bool (Lib.hasPrefix s.data.toList p.data.toList)) ∧ w' = w := Any.strings_HasPrefix Tryz.lays99 s p w
/-- strings.LastIndexByte. -/
theorem lastIndexByte_any (s : ByteArray) (c : Int) (hs : s.size < 4611686018427387904) (w : World) :
    Calls Tryz.prog 58 #[.string s, .int .u8 c] w fun e w' => e = .returned (.int .i64 (Lib.lastIndexByte s c)) ∧ w' = w := Any.strings_LastIndexByte Tryz.lays149 s c hs w
/-- strings.Count of one byte. -/
theorem count_any (s : ByteArray) (c : UInt8) (w : World) :
    Calls Tryz.prog 59 #[.string s, .string ⟨#[c]⟩] w fun e w' => e = .returned (.int .i64 (Lib.countByte s.data.toList c)) ∧ w' = w := Any.strings_Count_one Tryz.lays138 s c w
/-- (*strings.Builder).String. -/
theorem bstring_any (B b : Nat) (l : List UInt8) (w : World) (h : Lib.IsBuilder 56 5 B b (Lib.byteCells l) w) (hBw : B ≤ w.heap.size) :
    Calls Tryz.prog 23 #[.pointer (some ⟨b, 0, none⟩)] w fun e w' => e = .returned (.string ⟨l.toArray⟩) ∧ Below B w w' := Any.Builder_String_any Tryz.lays169 Tryz.extra169 B b l w h hBw
/-- (*strings.Builder).WriteByte. -/
theorem bwrite_any (B b : Nat) (bs : List Value) (c : Int) (w : World) (h : Lib.IsBuilder 56 5 B b bs w) (hlen : bs.length + 1 ≤ 140737488355328) (hBw : B ≤ w.heap.size) :
    Calls Tryz.prog 54 #[.pointer (some ⟨b, 0, none⟩), .int .u8 c] w fun e w' => e = .returned .nilIface ∧ (Lib.BuilderAt 56 5 B b (.pointer (some ⟨b, 0, none⟩)) (bs ++ [.int .u8 c]) w' ∧ Below B w w') := Any.Builder_WriteByte Tryz.lays167 Tryz.extra167 B b bs c w h hlen hBw

end Go.Proofs.YtnmmhihfnphjeaaGreatDoor.W

namespace Go.Proofs.YtnmmhihfnphjeaaGreatDoor.W
set_option linter.unusedVariables false
open Go.RowKit Go.Joins Go.Tx
attribute [local go_sem ↓] Go.wp_at_zero Go.wp_at_succ

/-- Block b now holds 'o'; nothing else has turned. -/
structure Upd (b : Nat) (o : Obj) (w w' : World) : Prop where
  os : w'.os = w.os
  tape : w'.tape = w.tape
  output : w'.output = w.output
  size : w'.heap.size = w.heap.size
  block : ∀ k, k ≠ b → w'.heap[k]? = w.heap[k]?
  now : w'.heap[b]? = some o

theorem Upd.set {b : Nat} {cs : Array Value} {t : TypeId} {w : World} (hb : w.heap[b]? = some (.cells cs t (0, 0))) (j : Nat) (v : Value) : Upd b (.cells (cs.setIfInBounds j v) t (0, 0)) w (w.setCell ⟨b, j, none⟩ v) :=
  ⟨rfl, rfl, rfl, by simp, fun k hk => Below.heap_setCell w ⟨b, j, none⟩ v k hk, block_setCell hb v⟩
theorem Upd.drew {b : Nat} {o : Obj} {w w' : World} (h : Upd b o w w') : Upd b o w w'.drew := ⟨h.os, h.tape, h.output, h.size, h.block, h.now⟩
theorem Upd.trans {b : Nat} {o o' : Obj} {w w' w'' : World} (h : Upd b o w w') (k : Upd b o' w' w'') : Upd b o' w w'' :=
  ⟨k.os.trans h.os, k.tape.trans h.tape, k.output.trans h.output, k.size.trans h.size, fun i hi => (k.block i hi).trans (h.block i hi), k.now⟩
theorem Upd.below {b : Nat} {o : Obj} {w w' : World} (h : Upd b o w w') {B : Nat} (hB : B ≤ b) : Below B w w' := ⟨h.os, h.tape, h.output, by rw [h.size]; exact Nat.le_refl _, fun k hk => h.block k (by omega)⟩

/-- The three numbers of a mark, in a block's first three cells. -/
structure Mark (cs : Array Value) (a e f : Int) : Prop where
  c0 : cs[0]? = some (.int .i64 a)
  c1 : cs[1]? = some (.int .i64 e)
  c2 : cs[2]? = some (.int .i64 f)

set_option maxHeartbeats 800000 in
set_option maxRecDepth 100000 in
theorem pass_no (b : Nat) (cs : Array Value) (t : TypeId) (a e f : Int) (r : ByteArray) (w : World) (hb : w.heap[b]? = some (.cells cs t (0, 0))) (hm : Mark cs a e f)
    (ha0 : 0 ≤ a) (ha1 : a ≤ 2000000000000) (hr : r.size ≤ 2000000000000) (hn : Lib.lastIndexByte r 10 < 0) :
    Calls Tryz.prog 41 #[.pointer (some ⟨b, 0, none⟩), .string r] w fun e w' => e = .returned (.tuple #[]) ∧ Upd b (.cells (cs.setIfInBounds 0 (.int .i64 (a + r.size))) t (0, 0)) w w' := by
  have c0 : w.cell? ⟨b, 0, none⟩ = some (.int .i64 a) := by rw [cell_of_block hb]; exact hm.c0
  have f0 : w.frozen? ⟨b, 0, none⟩ = false := unfrozen_of_block hb 0
  have HB : Hid (w.heap[b]? = some (.cells cs t (0, 0))) := hb
  clear hb
  go_enter Tryz.func41, Tryz.ntmps41
  go_wp2_with (go_at_call 58; refine (lastIndexByte_any _ _ (by omega) _).mono ?_; rintro e w' ⟨rfl, rfl⟩)
  go_end0
  exact ⟨rfl, Upd.set HB.out 0 _⟩

set_option maxHeartbeats 800000 in
set_option maxRecDepth 100000 in
theorem pass_yes (b : Nat) (cs : Array Value) (t : TypeId) (a e f : Int) (r : ByteArray) (w : World) (hb : w.heap[b]? = some (.cells cs t (0, 0))) (hm : Mark cs a e f)
    (ha0 : 0 ≤ a) (ha1 : a ≤ 2000000000000) (he0 : 0 ≤ e) (he1 : e ≤ 2000000000000) (hr : r.size ≤ 2000000000000) (hn : 0 ≤ Lib.lastIndexByte r 10) :
    Calls Tryz.prog 41 #[.pointer (some ⟨b, 0, none⟩), .string r] w fun x w' => x = .returned (.tuple #[]) ∧ Upd b (.cells (((cs.setIfInBounds 1 (.int .i64 (e + Lib.countByte r.data.toList 10))).setIfInBounds 2 (.int .i64 (a + Lib.lastIndexByte r 10 + 1))).setIfInBounds 0 (.int .i64 (a + r.size))) t (0, 0)) w w' := by
  have c0 : w.cell? ⟨b, 0, none⟩ = some (.int .i64 a) := by rw [cell_of_block hb]; exact hm.c0
  have c1 : w.cell? ⟨b, 1, none⟩ = some (.int .i64 e) := by rw [cell_of_block hb]; exact hm.c1
  have c2 : w.cell? ⟨b, 2, none⟩ = some (.int .i64 f) := by rw [cell_of_block hb]; exact hm.c2
  have f0 : w.frozen? ⟨b, 0, none⟩ = false := unfrozen_of_block hb 0
  have f1 : w.frozen? ⟨b, 1, none⟩ = false := unfrozen_of_block hb 1
  have f2 : w.frozen? ⟨b, 2, none⟩ = false := unfrozen_of_block hb 2
  have hl := (Tx.pass_some [] r hn).1
  have hct := Tx.count_le r
  have HB : Hid (w.heap[b]? = some (.cells cs t (0, 0))) := hb
  clear hb
  go_enter Tryz.func41, Tryz.ntmps41
  go_wp2_with (go_at_call 58; refine (lastIndexByte_any _ _ (by omega) _).mono ?_; rintro e w' ⟨rfl, rfl⟩)
  go_region_with (go_at_call 59; refine (count_any _ 10 _).mono ?_; rintro e w' ⟨rfl, rfl⟩)
  all_goals
    go_wp2_with fail
    go_end0
    exact ⟨rfl, (((Upd.set HB.out 1 _).trans (Upd.set (Upd.set HB.out 1 _).now 2 _)).trans (Upd.set ((Upd.set HB.out 1 _).trans (Upd.set (Upd.set HB.out 1 _).now 2 _)).now 0 _)).drew⟩

theorem si {k : IntKind} {a b : Int} (h : a = b) : some (Value.int k a) = some (.int k b) := by rw [h]
theorem set_same (cs : Array Value) (j : Nat) (v : Value) (h : j < cs.size) : (cs.setIfInBounds j v)[j]? = some v := by simp [h]
theorem set_ne (cs : Array Value) (i j : Nat) (v : Value) (h : i ≠ j) : (cs.setIfInBounds i v)[j]? = cs[j]? := by simp [h]

/-- A block that holds a cursor's mark behind the row l. -/
structure IsMark (w : World) (b : Nat) (l : List UInt8) (cs : Array Value) (t : TypeId) : Prop where
  hb : w.heap[b]? = some (.cells cs t (0, 0))
  m : Mark cs l.length ((st l).1 - 1) (l.length + 1 - (st l).2)

theorem pass_any (b : Nat) (cs : Array Value) (t : TypeId) (l : List UInt8) (r : ByteArray) (w : World) (h : IsMark w b l cs t) (hsz : 3 ≤ cs.size)
    (ha : l.length ≤ 2000000000000) (hr : r.size ≤ 2000000000000) :
    Calls Tryz.prog 41 #[.pointer (some ⟨b, 0, none⟩), .string r] w fun x w' => x = .returned (.tuple #[]) ∧ ∃ cs', IsMark w' b (l ++ r.data.toList) cs' t ∧ cs'.size = cs.size ∧ (∀ j, 3 ≤ j → cs'[j]? = cs[j]?) ∧ Upd b (.cells cs' t (0, 0)) w w' := by
  have hbd := st_bd l
  have hle : r.data.toList.length = r.size := len_eq r
  by_cases hn : Lib.lastIndexByte r 10 < 0
  · refine (pass_no b cs t _ _ _ r w h.hb h.m (by omega) (by omega) hr hn).mono ?_
    rintro x w' ⟨rfl, hu⟩
    refine ⟨rfl, _, ⟨hu.now, ?_⟩, by rw [Array.size_setIfInBounds], fun j hj => set_ne _ _ _ _ (by omega), hu⟩
    rw [pass_none l r hn]
    refine ⟨?_, ?_, ?_⟩
    · rw [set_same _ _ _ (by omega), List.length_append, hle]; exact si (by omega)
    · rw [set_ne _ _ _ _ (by omega)]; exact h.m.c1
    · rw [set_ne _ _ _ _ (by omega), h.m.c2, List.length_append, hle]; exact si (by simp; omega)
  · obtain ⟨h1, h2⟩ := pass_some l r (by omega)
    refine (pass_yes b cs t _ _ _ r w h.hb h.m (by omega) (by omega) (by omega) (by omega) hr (by omega)).mono ?_
    rintro x w' ⟨rfl, hu⟩
    refine ⟨rfl, _, ⟨hu.now, ?_⟩, by simp only [Array.size_setIfInBounds], fun j hj => by rw [set_ne _ _ _ _ (by omega), set_ne _ _ _ _ (by omega), set_ne _ _ _ _ (by omega)], hu⟩
    rw [h2]
    refine ⟨?_, ?_, ?_⟩
    · rw [set_same _ _ _ (by simp only [Array.size_setIfInBounds]; omega), List.length_append, hle]; exact si (by omega)
    · rw [set_ne _ _ _ _ (by omega), set_ne _ _ _ _ (by omega), set_same _ _ _ (by omega)]; exact si (by simp; omega)
    · rw [set_ne _ _ _ _ (by omega), set_same _ _ _ (by simp only [Array.size_setIfInBounds]; omega), List.length_append, hle]; exact si (by simp; omega)

end Go.Proofs.YtnmmhihfnphjeaaGreatDoor.W

namespace Go.Proofs.YtnmmhihfnphjeaaGreatDoor.W
set_option linter.unusedVariables false
open Go.RowKit Go.Joins Go.Tx
attribute [local go_sem ↓] Go.wp_at_zero Go.wp_at_succ

theorem set_cell {w : World} {b o : Nat} {v : Value} (h : w.cell? ⟨b, o, none⟩ = some v) (u : Value) : (w.setCell ⟨b, o, none⟩ u).cell? ⟨b, o, none⟩ = some u := by
  exact World.cell?_setCell_same w ⟨b, o, none⟩ u h

/-- A place as a value. -/
def plc (l : List UInt8) : Value := .agg #[.int .i64 (st l).1, .int .i64 (st l).2]

set_option maxHeartbeats 800000 in
set_option maxRecDepth 100000 in
theorem mplace_any (b : Nat) (cs : Array Value) (t : TypeId) (l : List UInt8) (w : World) (h : IsMark w b l cs t) (ha : l.length ≤ 2000000000000) :
    Calls Tryz.prog 42 #[.pointer (some ⟨b, 0, none⟩)] w fun x w' => x = .returned (plc l) ∧ Below w.heap.size w w' := by
  have c0 : w.cell? ⟨b, 0, none⟩ = some (.int .i64 l.length) := by rw [cell_of_block h.hb]; exact h.m.c0
  have c1 : w.cell? ⟨b, 1, none⟩ = some (.int .i64 ((st l).1 - 1)) := by rw [cell_of_block h.hb]; exact h.m.c1
  have c2 : w.cell? ⟨b, 2, none⟩ = some (.int .i64 (l.length + 1 - (st l).2)) := by rw [cell_of_block h.hb]; exact h.m.c2
  have n0 := World.new_ne w ⟨b, 0, none⟩ c0
  have n1 := World.new_ne w ⟨b, 1, none⟩ c1
  have n2 := World.new_ne w ⟨b, 2, none⟩ c2
  obtain ⟨h1, h2, h3, h4⟩ := st_bd l
  unfold plc
  generalize (st l).1 = L at *
  generalize (st l).2 = C at *
  clear h
  go_enter Tryz.func42, Tryz.ntmps42
  go_wp2_with fail
  go_region_held3 (fun w' => w'.cell? ⟨b, 0, none⟩ = some (.int .i64 l.length) ∧ w'.cell? ⟨b, 1, none⟩ = some (.int .i64 (L - 1)) ∧ w'.cell? ⟨b, 2, none⟩ = some (.int .i64 (l.length + 1 - C))) (go_keep) (fail)
  go_wp2_with fail
  refine bodyPost_ret (v := .agg #[.int .i64 L, .int .i64 C]) ?_ rfl ⟨rfl, ?_⟩
  · simp [results, Tryz.results42, go_sem]
    rw [IntKind.wrap_i64, IntKind.wrap_i64, IntKind.wrap_i64]
    omega
  · exact ((Below.refl _ _).alloc (Nat.le_refl _) _).drew

set_option maxHeartbeats 800000 in
set_option maxRecDepth 100000 in
theorem place_any (s : ByteArray) (at_ : Int) (w : World) (hs : s.size ≤ 2000000000000) :
    Calls Tryz.prog 24 #[.string s, .int .i64 at_] w fun x w' => x = .returned (plc (s.data.toList.take at_.toNat)) ∧ Below w.heap.size w w' := by
  obtain ⟨n, hn⟩ : ∃ n : Nat, n = (min (max at_ 0) (s.size : Int)).toNat := ⟨_, rfl⟩
  have ht : s.data.toList.take at_.toNat = (s.extract 0 n).data.toList := by
    have : (s.extract 0 n).data.toList = s.data.toList.take n := by simp
    rw [this, List.take_eq_take_iff, len_eq]; omega
  rw [ht]
  have hle : (s.extract 0 n).size ≤ 2000000000000 := by simp; omega
  rw [hn] at hle ⊢
  clear ht hn
  have hx : ∀ x, st (x ++ (s.extract 0 (min (max at_ 0) (s.size : Int)).toNat).data.toList) = st (x ++ (s.extract 0 (min (max at_ 0) (s.size : Int)).toNat).data.toList) := fun _ => rfl
  clear hx
  have hmk : IsMark ((w.alloc (.cells #[.int .i64 0, .int .i64 0] 32)).alloc (.cells #[.int .i64 0, .int .i64 0, .int .i64 0] 83)) (w.heap.size + 1) [] #[.int .i64 0, .int .i64 0, .int .i64 0] 83 :=
    ⟨by have := heap_alloc_new (w.alloc (.cells #[.int .i64 0, .int .i64 0] 32)) (.cells #[.int .i64 0, .int .i64 0, .int .i64 0] 83); simpa using this, rfl, rfl, rfl⟩
  go_enter Tryz.func24, Tryz.ntmps24
  go_wp2_with fail
  generalize hr : s.extract 0 (min (max at_ 0) (s.size : Int)).toNat = r at *
  refine (pass_any _ _ _ [] r _ hmk (by simp) (by simp) hle).mono ?_
  rintro x w1 ⟨rfl, cs', hm1, -, -, hu⟩
  rw [List.nil_append] at hm1
  have hb1 : Below (w.heap.size + 1) ((w.alloc (.cells #[.int .i64 0, .int .i64 0] 32)).alloc (.cells #[.int .i64 0, .int .i64 0, .int .i64 0] 83)) w1 := hu.below (Nat.le_refl _)
  have hz1 : w1.heap.size = w.heap.size + 2 := by rw [hu.size]; simp
  have hB : Below w.heap.size w w1 := (((Below.refl _ _).alloc (Nat.le_refl _) _).alloc (by simp) _).trans (hb1.mono (by omega))
  go_wp2_with fail
  refine (mplace_any _ _ _ _ _ hm1 (by rw [len_eq]; exact hle)).mono ?_
  rintro x w2 ⟨rfl, hb2⟩
  have c0 : w2.cell? ⟨w.heap.size, 0, none⟩ = some (.int .i64 0) := by
    rw [hb2.cell (by simp; omega), hb1.cell (by simp)]; simp [go_sem]
  have c1 : w2.cell? ⟨w.heap.size, 1, none⟩ = some (.int .i64 0) := by
    rw [hb2.cell (by simp; omega), hb1.cell (by simp)]; simp [go_sem]
  have f0 : w2.frozen? ⟨w.heap.size, 0, none⟩ = false := by
    rw [hb2.frozen (by simp; omega), hb1.frozen (by simp)]; simp [go_sem]
  have f1 : w2.frozen? ⟨w.heap.size, 1, none⟩ = false := by
    rw [hb2.frozen (by simp; omega), hb1.frozen (by simp)]; simp [go_sem]
  have HB : Below w.heap.size w w2 := hB.trans (hb2.mono (by omega))
  unfold plc
  go_wp2_with fail
  refine bodyPost_ret (v := plc r.data.toList) ?_ rfl ⟨by rw [hr], ?_⟩
  · have d0 : ∀ u, (w2.setCell ⟨w.heap.size, 0, none⟩ u).cell? ⟨w.heap.size, 0, none⟩ = some u := fun u => set_cell c0 u
    have d1 : ∀ u v, ((w2.setCell ⟨w.heap.size, 0, none⟩ u).setCell ⟨w.heap.size, 1, none⟩ v).cell? ⟨w.heap.size, 1, none⟩ = some v := fun u v => set_cell (v := .int .i64 0) (by simp [go_sem, c1]) v
    simp [results, Tryz.results24, go_sem, plc, d0, d1]
  · exact (HB.setCell (by simp) _).setCell (by simp) _

end Go.Proofs.YtnmmhihfnphjeaaGreatDoor.W
