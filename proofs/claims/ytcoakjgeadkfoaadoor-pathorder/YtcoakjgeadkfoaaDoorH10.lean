/-
  Contract of the law's known.
-/
import Derived.Test.YtcoakjgeadkfoaaDoorH9
namespace Go.Proofs.YtcoakjgeadkfoaaDoor
set_option linter.unusedSimpArgs false
set_option linter.unusedVariables false
open Go.RowKit Go.Vr Go.Sort Go.Tx Go.Pa Go.Lib
attribute [local go_sem] setCellDrewN allocDrewN

set_option maxHeartbeats 4000000 in
set_option maxRecDepth 100000 in
theorem known4_any (w : World) (he : Env w) :
    Calls Tryd.prog 5 #[] w fun e w' => e = .returned (.bool true) ∧ Below w.heap.size w w' := by
  have HE := hide he
  clear he
  have C1 : Hid (∀ W, Env W → Calls Tryd.prog 11 #[.string ⟨#[97, 47, 118, 50]⟩] W fun e w' => e = .returned (.tuple #[.string ⟨#[97]⟩, .int .i64 2]) ∧ Below W.heap.size W w') := fun W hW => by
    have := pmajor_any ⟨#[97, 47, 118, 50]⟩ W (by decide) hW
    have hm : maj (ByteArray.mk #[97, 47, 118, 50]).data.toList = ([97], 2) := by decide +kernel
    unfold mval at this
    rw [hm] at this
    exact this
  have C2 : Hid (∀ W : World, Env W → Calls Tryd.prog 9 #[.slice (some ⟨W.heap.size, 0, none⟩) 3 3, .string ⟨#[97, 47, 98, 47, 99]⟩, .agg #[.int .i64 1, .int .i64 0, .int .i64 0, .string ⟨#[]⟩]] (W.alloc (.cells #[.string ⟨#[97]⟩, .string ⟨#[97, 47, 98]⟩, .string ⟨#[97, 47, 118, 50]⟩] 9)) fun e w' => e = .returned (.tuple #[.string ⟨#[97, 47, 98]⟩, .bool true]) ∧ Below W.heap.size W w') := fun W hW => by
    have hb : Below W.heap.size W (W.alloc (.cells #[.string ⟨#[97]⟩, .string ⟨#[97, 47, 98]⟩, .string ⟨#[97, 47, 118, 50]⟩] 9)) := (Below.refl _ _).alloc (Nat.le_refl _) _
    have hr : SRow (W.alloc (.cells #[.string ⟨#[97]⟩, .string ⟨#[97, 47, 98]⟩, .string ⟨#[97, 47, 118, 50]⟩] 9)) (some ⟨W.heap.size, 0, none⟩) 3 3 [[97], [97, 47, 98], [97, 47, 118, 50]] := row_new W [[97], [97, 47, 98], [97, 47, 118, 50]] 3
    have hf : find (ByteArray.mk #[97, 47, 98, 47, 99]).data.toList 1 [[97], [97, 47, 98], [97, 47, 118, 50]] = some [97, 47, 98] := by decide +kernel
    have := pfind_any _ 3 3 _ ⟨#[97, 47, 98, 47, 99]⟩ ⟨1, 0, 0, ⟨#[]⟩⟩ _ hr (by omega) (by decide) (hW.later hb)
    simp only [hf] at this
    exact this.mono fun e w' h => ⟨h.1, hb.trans (h.2.mono (by simp))⟩
  have C3 : Hid (∀ W, Env W → Calls Tryd.prog 12 #[.string ⟨#[97, 47, 98, 46, 99]⟩] W fun e w' => e = .returned (.bool true) ∧ Below W.heap.size W w') := fun W hW => by
    have := pright_any ⟨#[97, 47, 98, 46, 99]⟩ W (by decide) hW
    have hm : right (ByteArray.mk #[97, 47, 98, 46, 99]).data.toList = true := by decide +kernel
    rw [hm] at this
    exact this
  have C4 : Hid (∀ W, Env W → Calls Tryd.prog 12 #[.string ⟨#[97, 47, 47, 98]⟩] W fun e w' => e = .returned (.bool false) ∧ Below W.heap.size W w') := fun W hW => by
    have := pright_any ⟨#[97, 47, 47, 98]⟩ W (by decide) hW
    have hm : right (ByteArray.mk #[97, 47, 47, 98]).data.toList = false := by decide +kernel
    rw [hm] at this
    exact this
  have C5 : Hid (∀ W, Env W → Calls Tryd.prog 13 #[.string ⟨#[97, 47, 118, 50]⟩, .agg #[.int .i64 2, .int .i64 0, .int .i64 0, .string ⟨#[]⟩]] W fun e w' => e = .returned (.bool true) ∧ Below W.heap.size W w') := fun W hW => by
    have := pfits_any ⟨#[97, 47, 118, 50]⟩ ⟨2, 0, 0, ⟨#[]⟩⟩ W (by decide) hW
    have hm : fits (ByteArray.mk #[97, 47, 118, 50]).data.toList 2 = true := by decide +kernel
    simp only [hm] at this
    exact this
  have C6 : Hid (∀ W, Env W → Calls Tryd.prog 13 #[.string ⟨#[97]⟩, .agg #[.int .i64 2, .int .i64 0, .int .i64 0, .string ⟨#[]⟩]] W fun e w' => e = .returned (.bool false) ∧ Below W.heap.size W w') := fun W hW => by
    have := pfits_any ⟨#[97]⟩ ⟨2, 0, 0, ⟨#[]⟩⟩ W (by decide) hW
    have hm : fits (ByteArray.mk #[97]).data.toList 2 = false := by decide +kernel
    simp only [hm] at this
    exact this
  have C7 : Hid (∀ W, Calls Tryd.prog 14 #[.string ⟨#[97, 47, 98]⟩, .string ⟨#[97]⟩] W fun e w' => e = .returned (.bool true) ∧ w' = W) := fun W => by
    have := pwithin_any ⟨#[97, 47, 98]⟩ ⟨#[97]⟩ W
    have hm : inside (ByteArray.mk #[97, 47, 98]).data.toList (ByteArray.mk #[97]).data.toList = true := by decide +kernel
    rw [hm] at this
    exact this
  have C8 : Hid (∀ W, Calls Tryd.prog 14 #[.string ⟨#[97, 98]⟩, .string ⟨#[97]⟩] W fun e w' => e = .returned (.bool false) ∧ w' = W) := fun W => by
    have := pwithin_any ⟨#[97, 98]⟩ ⟨#[97]⟩ W
    have hm : inside (ByteArray.mk #[97, 98]).data.toList (ByteArray.mk #[97]).data.toList = false := by decide +kernel
    rw [hm] at this
    exact this
  go_enter Tryd.func5, Tryd.ntmps5
  go_wp2_with fail
  refine (C1.out _ HE.out).mono ?_
  rintro e w1 ⟨rfl, b1⟩
  go_wp2_with fail
  refine (C2.out _ (HE.out.later b1)).mono ?_
  rintro e w2 ⟨rfl, b2⟩
  have B2 := step b1 b2
  go_wp2_with fail
  refine (C3.out _ (HE.out.later B2)).mono ?_
  rintro e w3 ⟨rfl, b3⟩
  have B3 := step B2 b3
  go_wp2_with fail
  refine (C4.out _ (HE.out.later B3)).mono ?_
  rintro e w4 ⟨rfl, b4⟩
  have B4 := step B3 b4
  go_wp2_with fail
  refine (C5.out _ (HE.out.later B4)).mono ?_
  rintro e w5 ⟨rfl, b5⟩
  have B5 := step B4 b5
  go_wp2_with fail
  refine (C6.out _ (HE.out.later B5)).mono ?_
  rintro e w6 ⟨rfl, b6⟩
  have B6 := step B5 b6
  go_wp2_with fail
  refine (C7.out _).mono ?_
  rintro e w7 ⟨rfl, rfl⟩
  go_wp2_with fail
  refine (C8.out _).mono ?_
  rintro e w8 ⟨rfl, rfl⟩
  go_wp2_with fail
  go_ret
  exact ⟨rfl, B6⟩

end Go.Proofs.YtcoakjgeadkfoaaDoor
