/-
  Contracts of the reference's Plain and Quote.
-/
import Derived.Test.YtnmmhihfnphjeaaGreatDoorG09

namespace Go.Proofs.YtnmmhihfnphjeaaGreatDoor.W
set_option linter.unusedVariables false
open Go.RowKit Go.Joins Go.Tx

theorem one_cut (s : ByteArray) (k : Nat) (h : k < s.size) : s.extract k (k + 1) = str [s[k]] := by
  refine ba_ext ?_
  have : (s.extract k (k + 1)).data.toList = (s.data.toList.drop k).take 1 := by simp
  rw [this, drop_cons s k h]; rfl

theorem esc1_a (c : UInt8) (h : ((c.toNat : Int) == 34) = true) : esc1 c = [92, 34] := by
  obtain rfl : c = 34 := u8_of (n := 34) (by decide) (by simpa using h)
  rfl
theorem esc1_b (c : UInt8) (h : ((c.toNat : Int) == 92) = true) : esc1 c = [92, 92] := by
  obtain rfl : c = 92 := u8_of (n := 92) (by decide) (by simpa using h)
  rfl
theorem esc1_c (c : UInt8) (h : ((c.toNat : Int) == 10) = true) : esc1 c = [92, 110] := by
  obtain rfl : c = 10 := u8_of (n := 10) (by decide) (by simpa using h)
  rfl
theorem esc1_d (c : UInt8) (h : ((c.toNat : Int) == 9) = true) : esc1 c = [92, 116] := by
  obtain rfl : c = 9 := u8_of (n := 9) (by decide) (by simpa using h)
  rfl
theorem esc1_e (c : UInt8) (h1 : ((c.toNat : Int) == 34) = false) (h2 : ((c.toNat : Int) == 92) = false) (h3 : ((c.toNat : Int) == 10) = false) (h4 : ((c.toNat : Int) == 9) = false) : esc1 c = [c] := by
  have e1 : c ≠ 34 := by rintro rfl; cases h1
  have e2 : c ≠ 92 := by rintro rfl; cases h2
  have e3 : c ≠ 10 := by rintro rfl; cases h3
  have e4 : c ≠ 9 := by rintro rfl; cases h4
  simp [esc1, esc, e1, e2, e3, e4]

set_option maxHeartbeats 1000000 in
set_option maxRecDepth 100000 in
theorem rquote_any (s : ByteArray) (w : World) (hs : s.size ≤ 2000000000000) :
    Calls Tryz.prog 28 #[.string s] w fun x w' => x = .returned (.string (str (quote s.data.toList))) ∧ w' = w := by
  go_enter Tryz.func28, Tryz.ntmps28
  go_wp2_with fail
  go_loop [3, 4] (fun o i => ∃ k : Nat, k ≤ s.size ∧ i = .int .i64 k ∧ o = .string (str (34 :: escs (s.data.toList.take k)))) (fun _ i => s.size - (RowKit.intOf i).toNat)
  case atStart => exact ⟨0, Nat.zero_le _, rfl, rfl⟩
  case round =>
    obtain ⟨k, hk, rfl, rfl⟩ := hrel
    have hlen := escs_len (s.data.toList.take k)
    have hlk : (s.data.toList.take k).length ≤ k := List.length_take_le _ _
    have hsz : (str (34 :: escs (s.data.toList.take k))).size ≤ 2 * k + 1 := by rw [str_size]; simp; omega
    by_cases hlt : k < s.size
    · have HE : Hid (str (34 :: escs (s.data.toList.take (k + 1))) = str (34 :: escs (s.data.toList.take k)) ++ str (esc1 s[k])) := by
        show _ = _
        rw [take_snoc s k hlt, escs_snoc, str_app]; rfl
      generalize str (34 :: escs (s.data.toList.take k)) = o at *
      have HO : Hid (s.extract k (k + 1) = str [s[k]]) := one_cut s k hlt
      clear hlen hlk
      go_wp2_with fail
      · go_round
        case rel => exact ⟨k + 1, by omega, by go_num, by rw [HE.out, esc1_a _ (by assumption)]; rfl⟩
        case measure => simp [RowKit.intOf]; omega
      · go_round
        case rel => exact ⟨k + 1, by omega, by go_num, by rw [HE.out, esc1_b _ (by assumption)]; rfl⟩
        case measure => simp [RowKit.intOf]; omega
      · go_round
        case rel => exact ⟨k + 1, by omega, by go_num, by rw [HE.out, esc1_c _ (by assumption)]; rfl⟩
        case measure => simp [RowKit.intOf]; omega
      · go_round
        case rel => exact ⟨k + 1, by omega, by go_num, by rw [HE.out, esc1_d _ (by assumption)]; rfl⟩
        case measure => simp [RowKit.intOf]; omega
      · go_round
        case rel => exact ⟨k + 1, by omega, by go_num, by rw [HE.out, esc1_e _ (by assumption) (by assumption) (by assumption) (by assumption), HO.out]⟩
        case measure => simp [RowKit.intOf]; omega
    · rw [take_all s k (by omega)] at *
      go_wp2_with fail
      go_ret
      exact ⟨ret_str (by rw [quote, ← List.cons_append, ← str_app]; rfl), rfl⟩

end Go.Proofs.YtnmmhihfnphjeaaGreatDoor.W
