/-
  Contract of the reference's word.
-/
import Derived.Test.YtninheehoabbbaaGreatDoorV2
namespace Go.Proofs.YtninheehoabbbaaGreatDoor
set_option linter.unusedVariables false
open Go.RowKit Go.Vr

theorem wordOk_empty (s : ByteArray) (h : s.size = 0) : wordOk s.data.toList = false := by
  unfold wordOk; rw [isEmpty_eq, decide_eq_true h]; rfl
theorem wordOk_zero (s : ByteArray) (hd : digs s.data.toList = true) (h : 1 < s.size) (h0 : (((s[0]).toNat : Int) == 48) = true) : wordOk s.data.toList = false := by
  have e0 : s[0] = 48 := UInt8.toNat_inj.1 (by have := beq_iff_eq.1 h0; show _ = 48; omega)
  have hl : 1 < s.data.toList.length := by rw [Tx.len_eq]; exact h
  unfold wordOk
  rw [hd, Tx.head_eq s (by omega), e0, decide_eq_true hl]; simp
theorem wordOk_else (s : ByteArray) (h1 : s.size ≠ 0) (h : digs s.data.toList = false ∨ ¬ 1 < s.size ∨ ∃ h : 0 < s.size, (((s[0]).toNat : Int) == 48) = false) : wordOk s.data.toList = s.data.toList.all isWd := by
  unfold wordOk
  rw [isEmpty_eq, decide_eq_false h1]
  have : (digs s.data.toList && decide (1 < s.data.toList.length) && (s.data.toList.head? == some 48)) = false := by
    rcases h with h | h | ⟨hp, h⟩
    · rw [h]; rfl
    · rw [Tx.len_eq, decide_eq_false h]; simp
    · rw [Tx.head_eq s hp]
      have : s[0] ≠ 48 := by intro e; rw [e] at h; simp at h
      simp [this]
  rw [this]; simp

set_option maxHeartbeats 800000 in
theorem rword_any (s : ByteArray) (w : World) (hs : s.size ≤ maxLen) :
    Calls Tryz.prog 51 #[.string s] w fun e w' => e = .returned (.bool (wordOk s.data.toList)) ∧ w' = w := by
  have hs0 := hs
  unfold maxLen at hs
  by_cases h0 : s.size = 0
  · have he : s.toList.isEmpty = true := by rw [empty_eq]; simpa using h0
    have HF : Hid (wordOk s.data.toList = false) := wordOk_empty s h0
    clear h0
    go_enter Tryz.func51, Tryz.ntmps51
    go_wp2
    go_ret
    exact ⟨ret_bool HF.out.symm, rfl⟩
  have he : s.toList.isEmpty = false := by rw [empty_eq]; simpa using h0
  have hpos : 0 < s.size := by omega
  by_cases hz : digs s.data.toList = true ∧ 1 < s.size ∧ (((s[0]).toNat : Int) == 48) = true
  · obtain ⟨z1, z2, z3⟩ := hz
    have HF : Hid (wordOk s.data.toList = false) := wordOk_zero s z1 z2 z3
    have z4 : decide ((1 : Int) < s.size) = true := by simp; omega
    have Z1 : Hid (digs s.data.toList = true) := z1
    clear z1
    go_enter Tryz.func51, Tryz.ntmps51
    go_wp2_with (go_at_call 76; refine (rdigs_any _ _ hs0).mono ?_; rw [Z1.out]; rintro e w' ⟨rfl, rfl⟩)
    go_ret
    exact ⟨ret_bool HF.out.symm, rfl⟩
  have HE : Hid (wordOk s.data.toList = s.data.toList.all isWd) := wordOk_else s h0 (by
    by_cases q1 : digs s.data.toList = true
    · by_cases q2 : 1 < s.size
      · refine .inr (.inr ⟨hpos, ?_⟩)
        cases q3 : (((s[0]).toNat : Int) == 48) with
        | true => exact absurd ⟨q1, q2, q3⟩ hz
        | false => rfl
      · exact .inr (.inl q2)
    · exact .inl (by simpa using q1))
  have key : ∀ (b1 b2 b3 : Bool), Hid (digs s.data.toList = b1) → decide ((1 : Int) < s.size) = b2 → (((s[0]).toNat : Int) == 48) = b3 → (b1 && b2 && b3) = false →
      Calls Tryz.prog 51 #[.string s] w fun e w' => e = .returned (.bool (wordOk s.data.toList)) ∧ w' = w := by
    intro b1 b2 b3 Q1 q2 q3 q4
    clear hz
    cases b1 <;> cases b2 <;> cases b3 <;> (try cases q4) <;>
    ( go_enter Tryz.func51, Tryz.ntmps51
      go_wp2_with (go_at_call 76; refine (rdigs_any _ _ hs0).mono ?_; rw [Q1.out]; rintro e w' ⟨rfl, rfl⟩)
      go_loop [3] (fun i => ∃ k : Nat, k ≤ s.size ∧ i = .int .i64 k ∧ Hid ((s.data.toList.take k).all isWd = true)) (fun i => s.size - (intOf i).toNat)
      case atStart => exact ⟨0, Nat.zero_le _, rfl, rfl⟩
      case round =>
        obtain ⟨k, hk, rfl, hp⟩ := hrel
        clear q3
        by_cases hlt : k < s.size
        · cases hd : digB ((s[k]).toNat : Int) with
          | true =>
            have HT : Hid ((s.data.toList.take (k + 1)).all isWd = true) := by
              show List.all _ _ = true
              rw [all_take_succ _ s k hlt, hp.out, isWd, isDig_eq, hd]; rfl
            have HD : Hid (digB ((s[k]).toNat : Int) = true) := hd
            clear hd
            go_wp2_with (go_at_call 20; refine (rdigit_any _ _).mono ?_; rw [HD.out]; rintro e w' ⟨rfl, rfl⟩)
            go_round
            case rel => exact ⟨k + 1, by omega, by go_num, HT⟩
            case measure => simp [intOf]; omega
          | false =>
            have HD : Hid (digB ((s[k]).toNat : Int) = false) := hd
            cases hl : letB ((s[k]).toNat : Int) with
            | true =>
              have HT : Hid ((s.data.toList.take (k + 1)).all isWd = true) := by
                show List.all _ _ = true
                rw [all_take_succ _ s k hlt, hp.out, isWd, isDig_eq, isLet_eq, hd, hl]; rfl
              have HL : Hid (letB ((s[k]).toNat : Int) = true) := hl
              clear hd hl
              go_wp2_with (first | (go_at_call 20; refine (rdigit_any _ _).mono ?_; rw [HD.out]; rintro e w' ⟨rfl, rfl⟩) | (go_at_call 77; refine (rletter_any _ _).mono ?_; rw [HL.out]; rintro e w' ⟨rfl, rfl⟩))
              go_round
              case rel => exact ⟨k + 1, by omega, by go_num, HT⟩
              case measure => simp [intOf]; omega
            | false =>
              have HF : Hid (s.data.toList.all isWd = false) := all_not _ s k hlt (by rw [isWd, isDig_eq, isLet_eq, hd, hl]; rfl)
              have HL : Hid (letB ((s[k]).toNat : Int) = false) := hl
              clear hd hl
              go_wp2_with (first | (go_at_call 20; refine (rdigit_any _ _).mono ?_; rw [HD.out]; rintro e w' ⟨rfl, rfl⟩) | (go_at_call 77; refine (rletter_any _ _).mono ?_; rw [HL.out]; rintro e w' ⟨rfl, rfl⟩))
              go_ret
              exact ⟨ret_bool (by rw [HE.out, HF.out]), rfl⟩
        · have HT : Hid (s.data.toList.all isWd = true) := by rw [← Tx.take_all s k (by omega)]; exact hp
          go_wp2
          go_ret
          exact ⟨ret_bool (by rw [HE.out, HT.out]), rfl⟩)
  refine key (digs s.data.toList) _ _ rfl rfl rfl ?_
  cases q1 : digs s.data.toList with
  | false => rfl
  | true =>
    cases q3 : (((s[0]).toNat : Int) == 48) with
    | false => simp
    | true =>
      simp only [Bool.and_true, Bool.true_and, decide_eq_false_iff_not]
      intro q2
      exact hz ⟨q1, by omega, q3⟩

end Go.Proofs.YtninheehoabbbaaGreatDoor
