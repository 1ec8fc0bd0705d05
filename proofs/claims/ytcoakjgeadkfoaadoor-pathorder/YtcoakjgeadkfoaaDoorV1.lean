/-
  Contracts of the reference's small functions: numbers, digits, signs.
-/
import Derived.Test.YtcoakjgeadkfoaaDoorProg
import Derived.Test.YtcoakjgeadkfoaaDoorM11
import Derived.WalkKit
import Derived.WalkSpells
import Derived.WalkLawsBesides
import Derived.Laws.BytesArg
namespace Go.Proofs.YtcoakjgeadkfoaaDoor
set_option linter.unusedVariables false
open Go.RowKit Go.Vr

theorem ret_int {k : IntKind} {a b : Int} (h : a = b) : Ending.returned (.int k a) = .returned (.int k b) := by rw [h]
theorem ret_bool {a b : Bool} (h : a = b) : Ending.returned (.bool a) = .returned (.bool b) := by rw [h]
theorem ret_str {a b : ByteArray} (h : a = b) : Ending.returned (.string a) = .returned (.string b) := by rw [h]
theorem ret_num {a b : Int} {c d : Bool} (h : a = b) (k : c = d) : Ending.returned (.tuple #[.int .i64 a, .bool c]) = .returned (.tuple #[.int .i64 b, .bool d]) := by rw [h, k]

set_option maxHeartbeats 400000 in
theorem rnumber_any (s : ByteArray) (w : World) (hs : s.size ≤ maxLen) :
    Calls Tryd.prog 21 #[.string s] w fun e w' => e = .returned (.tuple #[.int .i64 (Tx.numR s.data.toList), .bool (Tx.okNum s.data.toList)]) ∧ w' = w := by
  unfold maxLen at hs
  by_cases h1 : s.size < 1
  · have HF : Hid (Tx.okNum s.data.toList = false) := Tx.okNum_short s h1
    have hd : decide ((s.size : Int) < 1) = true := by simp; omega
    go_enter Tryd.func21, Tryd.ntmps21
    go_wp2
    go_ret2
    exact ⟨ret_num (by simp [Tx.numR, HF.out]) HF.out.symm, rfl⟩
  have d1 : decide ((s.size : Int) < 1) = false := by simp; omega
  by_cases h9 : 9 < s.size
  · have HF : Hid (Tx.okNum s.data.toList = false) := Tx.okNum_long s h9
    have hd : decide ((9 : Int) < s.size) = true := by simp; omega
    go_enter Tryd.func21, Tryd.ntmps21
    go_wp2
    go_ret2
    exact ⟨ret_num (by simp [Tx.numR, HF.out]) HF.out.symm, rfl⟩
  have d9 : decide ((9 : Int) < s.size) = false := by simp; omega
  by_cases hz : 1 < s.size ∧ ((s[0]).toNat : Int) = 48
  · obtain ⟨hz1, hz2⟩ := hz
    have HF : Hid (Tx.okNum s.data.toList = false) := Tx.okNum_zero s hz1 hz2
    have dz : decide ((1 : Int) < s.size) = true := by simp; omega
    have dy : (((s[0]).toNat : Int) == 48) = true := by simpa using hz2
    clear hz2
    go_enter Tryd.func21, Tryd.ntmps21
    go_wp2
    go_ret2
    exact ⟨ret_num (by simp [Tx.numR, HF.out]) HF.out.symm, rfl⟩
  have HE : Hid (Tx.okNum s.data.toList = s.data.toList.all Tx.isDig) := Tx.okNum_else s (by omega) (by omega) (by
    by_cases h2 : s.size = 1
    · exact .inl h2
    · exact .inr (fun e => hz ⟨by omega, e⟩))
  have H9 : s.size ≤ 9 := by omega
  by_cases hq : 1 < s.size
  case' pos =>
    have dz : decide ((1 : Int) < s.size) = true := by simp; omega
    have dy : (((s[0]).toNat : Int) == 48) = false := by simp; intro e; exact hz ⟨hq, e⟩
    clear hz
  case' neg =>
    have dz : decide ((1 : Int) < s.size) = false := by simp; omega
    clear hz
  all_goals
    go_enter Tryd.func21, Tryd.ntmps21
    go_wp2
    go_loop [4, 5] (fun n i => ∃ k : Nat, k ≤ s.size ∧ i = .int .i64 k ∧ n = .int .i64 (Tx.numVal (s.data.toList.take k)) ∧ Hid ((s.data.toList.take k).all Tx.isDig = true)) (fun _ i => s.size - (intOf i).toNat)
    case atStart => exact ⟨0, Nat.zero_le _, rfl, rfl, rfl⟩
    case round =>
      obtain ⟨k, hk, rfl, rfl, hp⟩ := hrel
      obtain ⟨b1, b2⟩ := Tx.numVal_bd9 s k hk (by omega) hp.out
      by_cases hlt : k < s.size
      · have HV : Hid (Tx.numVal (s.data.toList.take (k + 1)) = Tx.numVal (s.data.toList.take k) * 10 + (((s[k]).toNat : Int) - 48)) := Tx.numVal_take s k hlt
        by_cases hg1 : ((s[k]).toNat : Int) < 48
        · have HF : Hid (s.data.toList.all Tx.isDig = false) := Tx.notDig_false s k hlt (by simp [Tx.isDig]; omega)
          go_wp2
          go_ret2
          exact ⟨ret_num (by simp [Tx.numR, HE.out, HF.out]) (by rw [HE.out, HF.out]), rfl⟩
        have e1 : decide (((s[k]).toNat : Int) < 48) = false := by simp; omega
        by_cases hg2 : 57 < ((s[k]).toNat : Int)
        · have HF : Hid (s.data.toList.all Tx.isDig = false) := Tx.notDig_false s k hlt (by simp [Tx.isDig]; omega)
          go_wp2
          go_ret2
          exact ⟨ret_num (by simp [Tx.numR, HE.out, HF.out]) (by rw [HE.out, HF.out]), rfl⟩
        have e2 : decide (57 < ((s[k]).toNat : Int)) = false := by simp; omega
        have HT : Hid ((s.data.toList.take (k + 1)).all Tx.isDig = true) := by
          show List.all _ _ = true
          rw [Tx.digs_take s k hlt, hp.out]; simp [Tx.isDig]; omega
        go_wp2
        go_round
        case rel => exact ⟨k + 1, by omega, by go_num, by rw [HV.out]; try go_num, HT⟩
        case measure => simp [intOf]; omega
      · have HT : Hid (s.data.toList.all Tx.isDig = true) := by rw [← Tx.take_all s k (by omega)]; exact hp
        have HN : Hid (Tx.numVal (s.data.toList.take k) = Tx.numVal s.data.toList) := by rw [Tx.take_all s k (by omega)]; rfl
        go_wp2
        go_ret2
        exact ⟨ret_num (by simp [Tx.numR, HE.out, HT.out, HN.out]) (by rw [HE.out, HT.out]), rfl⟩

/-- string(b) of a row of bytes just made. -/
theorem conv_new (w : World) (xs : List Int) (cap : Nat) (o : Obj) (hc : ∀ i, i < xs.length → (w.alloc o).cell? ⟨w.heap.size, i, none⟩ = some (.int .u8 (xs.getD i 0))) :
    (convert 62 9 (.slice (some ⟨w.heap.size, 0, none⟩) xs.length cap)).run Tryd.prog (w.alloc o) = .ok (.string (strOfNums xs)) (w.alloc o) :=
  run_convert_bytes_arg (w.alloc o) 62 5 Tryd.underlying62 Tryd.underlying5 w.heap.size 0 xs.length cap xs rfl (fun i hi => by rw [Nat.zero_add]; exact hc i hi) 9 Tryd.underlying9

theorem conv_one (w : World) (n : Int) :
    (convert 62 9 (.slice (some ⟨w.heap.size, 0, none⟩) 1 1)).run Tryd.prog (w.alloc (.cells #[.int .u8 n] 5)) = .ok (.string ⟨#[UInt8.ofNat n.toNat]⟩) (w.alloc (.cells #[.int .u8 n] 5)) :=
  conv_new w [n] 1 _ (fun i hi => by
    have : i = 0 := by simpa using hi
    subst this
    simp [go_sem])

/-- Is a byte a digit, a letter or -? -/
def digB (n : Int) : Bool := decide (48 ≤ n) && decide (n ≤ 57)
def letB (n : Int) : Bool := (decide (97 ≤ n) && decide (n ≤ 122)) || (decide (65 ≤ n) && decide (n ≤ 90)) || (n == 45)
theorem isDig_eq (c : UInt8) : Tx.isDig c = digB (c.toNat : Int) := rfl
theorem isLet_eq (c : UInt8) : isLet c = letB (c.toNat : Int) := by
  unfold isLet letB
  congr 1

set_option maxHeartbeats 400000 in
theorem within_any (a n : Int) (w : World) (h1 : 1 ≤ n) (h2 : n ≤ 4611686018427387904) (h3 : -9223372036854775808 ≤ a) (h4 : a ≤ 9223372036854775807) :
    Calls Tryd.prog 15 #[.int .i64 a, .int .i64 n] w fun e w' => e = .returned (.int .i64 (a % n)) ∧ w' = w := by
  obtain ⟨hb1, hb2⟩ := Tx.tmod_bd a n h1
  go_enter Tryd.func15, Tryd.ntmps15
  go_wp2
  · go_ret
    exact ⟨ret_int (Tx.tmod_dn a n h1 (by assumption)), rfl⟩
  · go_ret
    exact ⟨ret_int (Tx.tmod_up a n h1 (by assumption)), rfl⟩

/-- A number from 0 to n - 1. -/
theorem within_nat (a n : Int) (w : World) (h1 : 1 ≤ n) (h2 : n ≤ 4611686018427387904) (h3 : -9223372036854775808 ≤ a) (h4 : a ≤ 9223372036854775807) :
    Calls Tryd.prog 15 #[.int .i64 a, .int .i64 n] w fun e w' => ∃ k : Nat, e = .returned (.int .i64 k) ∧ (k : Int) < n ∧ Hid ((k : Int) = a % n) ∧ w' = w := by
  refine (within_any a n w h1 h2 h3 h4).mono ?_
  rintro e w' ⟨rfl, rfl⟩
  have b1 := Int.emod_nonneg a (b := n) (by omega)
  have b2 := Int.emod_lt_of_pos a (b := n) (by omega)
  exact ⟨(a % n).toNat, by rw [Int.toNat_of_nonneg b1], by omega, Int.toNat_of_nonneg b1, rfl⟩

end Go.Proofs.YtcoakjgeadkfoaaDoor
