/-
  Contracts of the reference's digits and word.
-/
import Derived.Test.YtninheehoabbbaaGreatDoorV1
namespace Go.Proofs.YtninheehoabbbaaGreatDoor
set_option linter.unusedVariables false
open Go.RowKit Go.Vr

theorem all_take_succ (p : UInt8 → Bool) (s : ByteArray) (k : Nat) (h : k < s.size) : (s.data.toList.take (k + 1)).all p = ((s.data.toList.take k).all p && p s[k]) := by rw [Tx.take_snoc s k h]; simp [List.all_append]
theorem all_not (p : UInt8 → Bool) (s : ByteArray) (k : Nat) (h : k < s.size) (hb : p s[k] = false) : s.data.toList.all p = false := by
  have hm : s[k] ∈ s.data.toList := by
    have : s[k] = s.data.toList[k]'(by simpa using h) := rfl
    rw [this]; exact List.getElem_mem _
  rw [List.all_eq_false]
  exact ⟨_, hm, by simp [hb]⟩
theorem isEmpty_eq (s : ByteArray) : s.data.toList.isEmpty = decide (s.size = 0) := by
  have := Tx.len_eq s
  cases e : s.data.toList with
  | nil => rw [e] at this; simp at this; simp [← this]
  | cons c l => rw [e] at this; simp only [List.length_cons] at this; rw [decide_eq_false (by omega)]; rfl
theorem digs_eq (s : ByteArray) : digs s.data.toList = (decide (s.size ≠ 0) && s.data.toList.all Tx.isDig) := by
  unfold digs
  rw [isEmpty_eq]; simp
theorem toList_data (s : ByteArray) : s.toList = s.data.toList := by obtain ⟨⟨l⟩⟩ := s; simp
theorem empty_eq (s : ByteArray) : s.toList.isEmpty = decide (s.size = 0) := by rw [toList_data, isEmpty_eq]

set_option maxHeartbeats 400000 in
theorem rdigs_any (s : ByteArray) (w : World) (hs : s.size ≤ maxLen) :
    Calls Tryz.prog 76 #[.string s] w fun e w' => e = .returned (.bool (digs s.data.toList)) ∧ w' = w := by
  unfold maxLen at hs
  go_enter Tryz.func76, Tryz.ntmps76
  go_wp2
  go_loop [3] (fun i => ∃ k : Nat, k ≤ s.size ∧ i = .int .i64 k ∧ Hid ((s.data.toList.take k).all Tx.isDig = true)) (fun i => s.size - (intOf i).toNat)
  case atStart => exact ⟨0, Nat.zero_le _, rfl, rfl⟩
  case round =>
    obtain ⟨k, hk, rfl, hp⟩ := hrel
    by_cases hlt : k < s.size
    · cases hd : digB ((s[k]).toNat : Int) with
      | true =>
        have HT : Hid ((s.data.toList.take (k + 1)).all Tx.isDig = true) := by
          show List.all _ _ = true
          rw [all_take_succ _ s k hlt, hp.out, isDig_eq, hd]; rfl
        go_wp2_with (go_at_call 20; refine (rdigit_any _ _).mono ?_; rw [hd]; rintro e w' ⟨rfl, rfl⟩)
        go_round
        case rel => exact ⟨k + 1, by omega, by go_num, HT⟩
        case measure => simp [intOf]; omega
      | false =>
        have HF : Hid (s.data.toList.all Tx.isDig = false) := all_not _ s k hlt hd
        go_wp2_with (go_at_call 20; refine (rdigit_any _ _).mono ?_; rw [hd]; rintro e w' ⟨rfl, rfl⟩)
        go_ret
        exact ⟨ret_bool (by rw [digs_eq, HF.out]; simp), rfl⟩
    · have HT : Hid (s.data.toList.all Tx.isDig = true) := by rw [← Tx.take_all s k (by omega)]; exact hp
      go_wp2
      go_ret
      exact ⟨ret_bool (by rw [digs_eq, HT.out, Bool.and_true, empty_eq]; simp), rfl⟩

end Go.Proofs.YtninheehoabbbaaGreatDoor
