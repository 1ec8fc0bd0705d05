/-
  strings.IndexAny at any bytes.
-/
import Derived.Test.YtninheehoabbbaaGreatDoorN23
import Derived.Laws.RangeAny
import Derived.Laws.Runes
import Derived.WalkMore
import Derived.BigQuiet
namespace Go.Proofs.YtninheehoabbbaaGreatDoor
set_option linter.unusedSimpArgs false
set_option linter.unusedVariables false
open Go.RowKit Go.Vr Go.Sort Go.Tx Go.Lib
attribute [local go_sem] setCellDrewN allocDrewN

theorem enc_cases (r : Int) (h : 128 ≤ r) : (∃ a b : UInt8, Utf8.encode r = ⟨#[a, b]⟩ ∧ 128 ≤ b.toNat) ∨ (∃ a b c : UInt8, Utf8.encode r = ⟨#[a, b, c]⟩) ∨ (∃ a b c d : UInt8, Utf8.encode r = ⟨#[a, b, c, d]⟩) := by
  unfold Utf8.encode
  have hc : 128 ≤ (if Utf8.valid r = true then r.toNat else Utf8.runeError) := by
    split
    · omega
    · decide
  generalize (if Utf8.valid r = true then r.toNat else Utf8.runeError) = c at *
  simp only
  rw [if_neg (by omega)]
  split
  · refine .inl ⟨_, _, rfl, ?_⟩
    rw [UInt8.toNat_ofNat']
    omega
  · split
    · exact .inr (.inl ⟨_, _, _, rfl⟩)
    · exact .inr (.inr ⟨_, _, _, _, rfl⟩)

set_option maxHeartbeats 2000000 in
theorem valid_rune (r : Int) (w : World) : Calls Tryz.prog 157 #[.int .i32 r] w fun e w' => ∃ b : Bool, e = .returned (.bool b) ∧ w' = w := by
  by_cases h1 : 0 ≤ r ∧ r < 55296
  · obtain ⟨h1, h2⟩ := h1
    go_enter Tryz.func157, Tryz.ntmps157
    go_wp2_with fail
    go_ret
    first | exact ⟨true, rfl, rfl⟩ | exact ⟨.inr rfl, rfl⟩
  · by_cases h0 : 0 ≤ r
    · have h2 : ¬ r < 55296 := fun h => h1 ⟨h0, h⟩
      have h2' : decide (r < 55296) = false := decide_eq_false h2
      by_cases h3 : 57343 < r
      · by_cases h4 : r ≤ 1114111
        all_goals
          go_enter Tryz.func157, Tryz.ntmps157
          go_wp2_with fail
          go_ret
          first | exact ⟨_, rfl, rfl⟩ | exact ⟨.inl rfl, rfl⟩ | exact ⟨.inr rfl, rfl⟩
      · go_enter Tryz.func157, Tryz.ntmps157
        go_wp2_with fail
        go_ret
        first | exact ⟨_, rfl, rfl⟩ | exact ⟨.inl rfl, rfl⟩ | exact ⟨.inr rfl, rfl⟩
    · have h3 : ¬ 57343 < r := by omega
      go_enter Tryz.func157, Tryz.ntmps157
      go_wp2_with fail
      go_ret
      first | exact ⟨_, rfl, rfl⟩ | exact ⟨.inl rfl, rfl⟩ | exact ⟨.inr rfl, rfl⟩

end Go.Proofs.YtninheehoabbbaaGreatDoor
