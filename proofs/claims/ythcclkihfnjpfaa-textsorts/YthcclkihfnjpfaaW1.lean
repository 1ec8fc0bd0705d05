/-
  Contracts of the small functions: what each call answers, the world as it was.
-/
import Derived.Test.YthcclkihfnjpfaaProg
import Derived.Test.YthcclkihfnjpfaaM1
import Derived.WalkKit
import Derived.WalkSpells
import Derived.WalkLawsBesides
namespace Go.Proofs.Ythcclkihfnjpfaa
set_option linter.unusedVariables false
open Go.RowKit

theorem ret_int {k : IntKind} {a b : Int} (h : a = b) : Ending.returned (.int k a) = .returned (.int k b) := by rw [h]
theorem ret_bool {a b : Bool} (h : a = b) : Ending.returned (.bool a) = .returned (.bool b) := by rw [h]
theorem ret_str {a b : ByteArray} (h : a = b) : Ending.returned (.string a) = .returned (.string b) := by rw [h]

set_option maxHeartbeats 400000 in
theorem printable_any (n : Int) (w : World) :
    Calls Try.prog 52 #[.int .u8 n] w fun e w' => e = .returned (.bool (Tx.prB n)) ∧ w' = w := by
  by_cases h1 : 32 ≤ n
  · go_enter Try.func52, Try.ntmps52
    go_wp2
    go_ret
    exact ⟨by simp [Tx.prB, h1], rfl⟩
  · have hd : decide (32 ≤ n) = false := by simpa using h1
    go_enter Try.func52, Try.ntmps52
    go_wp2
    go_ret
    exact ⟨by simp [Tx.prB, hd], rfl⟩

set_option maxHeartbeats 400000 in
theorem within_any (a n : Int) (w : World) (h1 : 1 ≤ n) (h2 : n ≤ 4611686018427387904) (h3 : -9223372036854775808 ≤ a) (h4 : a ≤ 9223372036854775807) :
    Calls Try.prog 15 #[.int .i64 a, .int .i64 n] w fun e w' => e = .returned (.int .i64 (a % n)) ∧ w' = w := by
  obtain ⟨hb1, hb2⟩ := Tx.tmod_bd a n h1
  go_enter Try.func15, Try.ntmps15
  go_wp2
  · go_ret
    exact ⟨ret_int (Tx.tmod_dn a n h1 (by assumption)), rfl⟩
  · go_ret
    exact ⟨ret_int (Tx.tmod_up a n h1 (by assumption)), rfl⟩

set_option maxHeartbeats 400000 in
theorem signs_any (w : World) :
    Calls Try.prog 42 #[] w fun e w' => e = .returned (.string ⟨#[10, 9, 32, 34, 92, 35, 47, 97, 98, 99, 110, 116, 58, 61, 45, 91, 93, 123, 125, 44, 46, 48, 49, 50, 51, 118, 120, 126, 94, 42, 124, 60, 62, 33, 95, 122, 121, 113]⟩) ∧ w' = w := by
  go_enter Try.func42, Try.ntmps42
  go_wp2
  go_ret
  exact ⟨rfl, rfl⟩

set_option maxHeartbeats 400000 in
theorem plain_any (s : ByteArray) (w : World) (hs : s.size ≤ maxLen) :
    Calls Try.prog 36 #[.string s] w fun e w' => e = .returned (.bool (Tx.plain s.data.toList)) ∧ w' = w := by
  unfold maxLen at hs
  go_enter Try.func36, Try.ntmps36
  go_wp2
  go_loop [7] (fun i => ∃ k : Nat, k ≤ s.size ∧ i = .int .i64 k ∧ Hid (Tx.plain (s.data.toList.take k) = true)) (fun i => s.size - (intOf i).toNat)
  case atStart => exact ⟨0, Nat.zero_le _, rfl, rfl⟩
  case round =>
    obtain ⟨k, hk, rfl, hp⟩ := hrel
    by_cases hlt : k < s.size
    · go_wp2_with (go_at_call 52; refine (printable_any _ _).mono ?_; rintro e w' ⟨rfl, rfl⟩)
      · go_round
        case rel => exact ⟨k + 1, by omega, by go_num, Tx.plain_more s k hlt hp (by simp [Tx.plB, *])⟩
        case measure => simp [intOf]; omega
      · go_round
        case rel => exact ⟨k + 1, by omega, by go_num, Tx.plain_more s k hlt hp (by simp [Tx.plB, *])⟩
        case measure => simp [intOf]; omega
      · go_ret
        have ht : ((((s[k]).toNat : Int) != 9) = true ∧ (((s[k]).toNat : Int) != 10) = true) ∧ (!Tx.prB ((s[k]).toNat : Int)) = true := by assumption
        exact ⟨ret_bool (Tx.plain_take_false s k hlt (by simp [Tx.plB] at ht ⊢; exact ht)).symm, rfl⟩
      · go_round
        case rel =>
          have ht : ((((s[k]).toNat : Int) != 9) = false ∨ (((s[k]).toNat : Int) != 10) = false) ∨ (!Tx.prB ((s[k]).toNat : Int)) = false := by assumption
          exact ⟨k + 1, by omega, by go_num, Tx.plain_more s k hlt hp (by simp [Tx.plB] at ht ⊢; exact ht)⟩
        case measure => simp [intOf]; omega
    · go_wp2
      go_ret
      exact ⟨ret_bool (by rw [← Tx.take_all s k (by omega)]; exact hp.out.symm), rfl⟩

end Go.Proofs.Ythcclkihfnjpfaa
