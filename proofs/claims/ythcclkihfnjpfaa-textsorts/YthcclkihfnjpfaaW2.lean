/-
  Contracts of Number, the reference's Number and Digits.
-/
import Derived.Test.YthcclkihfnjpfaaW1
namespace Go.Proofs.Ythcclkihfnjpfaa
set_option linter.unusedVariables false
open Go.RowKit

theorem ret_num {a b : Int} {c d : Bool} (h : a = b) (k : c = d) : Ending.returned (.tuple #[.int .i64 a, .bool c]) = .returned (.tuple #[.int .i64 b, .bool d]) := by rw [h, k]

set_option maxHeartbeats 400000 in
theorem number_any (s : ByteArray) (w : World) (hs : s.size ≤ maxLen) :
    Calls Try.prog 30 #[.string s] w fun e w' => e = .returned (.tuple #[.int .i64 (Tx.numR s.data.toList), .bool (Tx.okNum s.data.toList)]) ∧ w' = w := by
  unfold maxLen at hs
  by_cases h1 : s.size < 1
  · have HF : Hid (Tx.okNum s.data.toList = false) := Tx.okNum_short s h1
    have hd : decide ((s.size : Int) < 1) = true := by simp; omega
    go_enter Try.func30, Try.ntmps30
    go_wp2
    go_ret2
    exact ⟨ret_num (by simp [Tx.numR, HF.out]) HF.out.symm, rfl⟩
  have d1 : decide ((s.size : Int) < 1) = false := by simp; omega
  by_cases h9 : 9 < s.size
  · have HF : Hid (Tx.okNum s.data.toList = false) := Tx.okNum_long s h9
    have hd : decide ((9 : Int) < s.size) = true := by simp; omega
    go_enter Try.func30, Try.ntmps30
    go_wp2
    go_ret2
    exact ⟨ret_num (by simp [Tx.numR, HF.out]) HF.out.symm, rfl⟩
  have d9 : decide ((9 : Int) < s.size) = false := by simp; omega
  by_cases hz : 1 < s.size ∧ ((s[0]).toNat : Int) = 48
  · obtain ⟨hz1, hz2⟩ := hz
    have HF : Hid (Tx.okNum s.data.toList = false) := Tx.okNum_zero s hz1 hz2
    have dz : decide ((1 : Int) < s.size) = true := by simp; omega
    have dy : (((s[0]).toNat : Int) == 48) = true := by simpa using hz2
    clear hz2
    go_enter Try.func30, Try.ntmps30
    go_wp2
    go_ret2
    exact ⟨ret_num (by simp [Tx.numR, HF.out]) HF.out.symm, rfl⟩
  have HE : Hid (Tx.okNum s.data.toList = s.data.toList.all Tx.isDig) := Tx.okNum_else s (by omega) (by omega) (by
    by_cases h2 : s.size = 1
    · exact .inl h2
    · exact .inr (fun e => hz ⟨by omega, e⟩))
  have H9 : s.size ≤ 9 := by omega
  by_cases hq : 1 < s.size
  case' pos =>
    have dz : decide ((1 : Int) < s.size) = true := by simp; omega
    have dy : (((s[0]).toNat : Int) == 48) = false := by simp; intro e; exact hz ⟨hq, e⟩
    clear hz
  case' neg =>
    have dz : decide ((1 : Int) < s.size) = false := by simp; omega
    clear hz
  all_goals
    go_enter Try.func30, Try.ntmps30
    go_wp2
    go_loop [4, 26] (fun n i => ∃ k : Nat, k ≤ s.size ∧ i = .int .i64 k ∧ n = .int .i64 (Tx.numVal (s.data.toList.take k)) ∧ Hid ((s.data.toList.take k).all Tx.isDig = true)) (fun _ i => s.size - (intOf i).toNat)
    case atStart => exact ⟨0, Nat.zero_le _, rfl, rfl, rfl⟩
    case round =>
      obtain ⟨k, hk, rfl, rfl, hp⟩ := hrel
      obtain ⟨b1, b2⟩ := Tx.numVal_bd9 s k hk (by omega) hp.out
      by_cases hlt : k < s.size
      · have HV : Hid (Tx.numVal (s.data.toList.take (k + 1)) = Tx.numVal (s.data.toList.take k) * 10 + (((s[k]).toNat : Int) - 48)) := Tx.numVal_take s k hlt
        by_cases hg1 : ((s[k]).toNat : Int) < 48
        · have HF : Hid (s.data.toList.all Tx.isDig = false) := Tx.notDig_false s k hlt (by simp [Tx.isDig]; omega)
          go_wp2
          go_ret2
          exact ⟨ret_num (by simp [Tx.numR, HE.out, HF.out]) (by rw [HE.out, HF.out]), rfl⟩
        have e1 : decide (((s[k]).toNat : Int) < 48) = false := by simp; omega
        by_cases hg2 : 57 < ((s[k]).toNat : Int)
        · have HF : Hid (s.data.toList.all Tx.isDig = false) := Tx.notDig_false s k hlt (by simp [Tx.isDig]; omega)
          go_wp2
          go_ret2
          exact ⟨ret_num (by simp [Tx.numR, HE.out, HF.out]) (by rw [HE.out, HF.out]), rfl⟩
        have e2 : decide (57 < ((s[k]).toNat : Int)) = false := by simp; omega
        have HT : Hid ((s.data.toList.take (k + 1)).all Tx.isDig = true) := by
          show List.all _ _ = true
          rw [Tx.digs_take s k hlt, hp.out]; simp [Tx.isDig]; omega
        go_wp2
        go_round
        case rel => exact ⟨k + 1, by omega, by go_num, by rw [HV.out]; try go_num, HT⟩
        case measure => simp [intOf]; omega
      · have HT : Hid (s.data.toList.all Tx.isDig = true) := by rw [← Tx.take_all s k (by omega)]; exact hp
        have HN : Hid (Tx.numVal (s.data.toList.take k) = Tx.numVal s.data.toList) := by rw [Tx.take_all s k (by omega)]; rfl
        go_wp2
        go_ret2
        exact ⟨ret_num (by simp [Tx.numR, HE.out, HT.out, HN.out]) (by rw [HE.out, HT.out]), rfl⟩

set_option maxHeartbeats 400000 in
theorem rnumber_any (s : ByteArray) (w : World) (hs : s.size ≤ maxLen) :
    Calls Try.prog 31 #[.string s] w fun e w' => e = .returned (.tuple #[.int .i64 (Tx.numR s.data.toList), .bool (Tx.okNum s.data.toList)]) ∧ w' = w := by
  unfold maxLen at hs
  by_cases h1 : s.size < 1
  · have HF : Hid (Tx.okNum s.data.toList = false) := Tx.okNum_short s h1
    have hd : decide ((s.size : Int) < 1) = true := by simp; omega
    go_enter Try.func31, Try.ntmps31
    go_wp2
    go_ret2
    exact ⟨ret_num (by simp [Tx.numR, HF.out]) HF.out.symm, rfl⟩
  have d1 : decide ((s.size : Int) < 1) = false := by simp; omega
  by_cases h9 : 9 < s.size
  · have HF : Hid (Tx.okNum s.data.toList = false) := Tx.okNum_long s h9
    have hd : decide ((9 : Int) < s.size) = true := by simp; omega
    go_enter Try.func31, Try.ntmps31
    go_wp2
    go_ret2
    exact ⟨ret_num (by simp [Tx.numR, HF.out]) HF.out.symm, rfl⟩
  have d9 : decide ((9 : Int) < s.size) = false := by simp; omega
  by_cases hz : 1 < s.size ∧ ((s[0]).toNat : Int) = 48
  · obtain ⟨hz1, hz2⟩ := hz
    have HF : Hid (Tx.okNum s.data.toList = false) := Tx.okNum_zero s hz1 hz2
    have dz : decide ((1 : Int) < s.size) = true := by simp; omega
    have dy : (((s[0]).toNat : Int) == 48) = true := by simpa using hz2
    clear hz2
    go_enter Try.func31, Try.ntmps31
    go_wp2
    go_ret2
    exact ⟨ret_num (by simp [Tx.numR, HF.out]) HF.out.symm, rfl⟩
  have HE : Hid (Tx.okNum s.data.toList = s.data.toList.all Tx.isDig) := Tx.okNum_else s (by omega) (by omega) (by
    by_cases h2 : s.size = 1
    · exact .inl h2
    · exact .inr (fun e => hz ⟨by omega, e⟩))
  have H9 : s.size ≤ 9 := by omega
  by_cases hq : 1 < s.size
  case' pos =>
    have dz : decide ((1 : Int) < s.size) = true := by simp; omega
    have dy : (((s[0]).toNat : Int) == 48) = false := by simp; intro e; exact hz ⟨hq, e⟩
    clear hz
  case' neg =>
    have dz : decide ((1 : Int) < s.size) = false := by simp; omega
    clear hz
  all_goals
    go_enter Try.func31, Try.ntmps31
    go_wp2
    go_loop [4, 5] (fun n i => ∃ k : Nat, k ≤ s.size ∧ i = .int .i64 k ∧ n = .int .i64 (Tx.numVal (s.data.toList.take k)) ∧ Hid ((s.data.toList.take k).all Tx.isDig = true)) (fun _ i => s.size - (intOf i).toNat)
    case atStart => exact ⟨0, Nat.zero_le _, rfl, rfl, rfl⟩
    case round =>
      obtain ⟨k, hk, rfl, rfl, hp⟩ := hrel
      obtain ⟨b1, b2⟩ := Tx.numVal_bd9 s k hk (by omega) hp.out
      by_cases hlt : k < s.size
      · have HV : Hid (Tx.numVal (s.data.toList.take (k + 1)) = Tx.numVal (s.data.toList.take k) * 10 + (((s[k]).toNat : Int) - 48)) := Tx.numVal_take s k hlt
        by_cases hg1 : ((s[k]).toNat : Int) < 48
        · have HF : Hid (s.data.toList.all Tx.isDig = false) := Tx.notDig_false s k hlt (by simp [Tx.isDig]; omega)
          go_wp2
          go_ret2
          exact ⟨ret_num (by simp [Tx.numR, HE.out, HF.out]) (by rw [HE.out, HF.out]), rfl⟩
        have e1 : decide (((s[k]).toNat : Int) < 48) = false := by simp; omega
        by_cases hg2 : 57 < ((s[k]).toNat : Int)
        · have HF : Hid (s.data.toList.all Tx.isDig = false) := Tx.notDig_false s k hlt (by simp [Tx.isDig]; omega)
          go_wp2
          go_ret2
          exact ⟨ret_num (by simp [Tx.numR, HE.out, HF.out]) (by rw [HE.out, HF.out]), rfl⟩
        have e2 : decide (57 < ((s[k]).toNat : Int)) = false := by simp; omega
        have HT : Hid ((s.data.toList.take (k + 1)).all Tx.isDig = true) := by
          show List.all _ _ = true
          rw [Tx.digs_take s k hlt, hp.out]; simp [Tx.isDig]; omega
        go_wp2
        go_round
        case rel => exact ⟨k + 1, by omega, by go_num, by rw [HV.out]; try go_num, HT⟩
        case measure => simp [intOf]; omega
      · have HT : Hid (s.data.toList.all Tx.isDig = true) := by rw [← Tx.take_all s k (by omega)]; exact hp
        have HN : Hid (Tx.numVal (s.data.toList.take k) = Tx.numVal s.data.toList) := by rw [Tx.take_all s k (by omega)]; rfl
        go_wp2
        go_ret2
        exact ⟨ret_num (by simp [Tx.numR, HE.out, HT.out, HN.out]) (by rw [HE.out, HT.out]), rfl⟩

end Go.Proofs.Ythcclkihfnjpfaa
