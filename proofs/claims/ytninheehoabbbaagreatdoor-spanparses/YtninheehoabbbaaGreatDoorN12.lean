/-
  Contracts of bumpA, bumpB, bumpC, bumpLeading, signed.
-/
import Derived.Test.YtninheehoabbbaaGreatDoorN11
import Derived.Test.YtninheehoabbbaaGreatDoorM18
namespace Go.Proofs.YtninheehoabbbaaGreatDoor
set_option linter.unusedSimpArgs false
set_option linter.unusedVariables false
open Go.RowKit Go.Vr Go.Sort Go.Tx Go.Lib
attribute [local go_sem] setCellDrewN allocDrewN

set_option maxHeartbeats 2000000 in
theorem bumpA_any (v : V) (x : Bool) (w : World) (hv : v.ok = true) :
    Calls Tryz.prog 140 #[cutv v.a v.b v.c v.p x false] w fun e w' => e = .returned (pl (Sp.bumpA v)).val ∧ RowKit.Below w.heap.size w w' := by
  have hp := Sp.parts_ok hv
  by_cases h : v.a = 999999
  · have e : Sp.bumpA v = none := if_pos h
    rw [e]
    have CE : Hid (∀ W, Calls Tryz.prog 27 #[] W fun e w' => e = .returned (pl none).val ∧ RowKit.Below W.heap.size W w') := fun W => end_raw W
    clear e
    generalize pl none = u at *
    clear hv hp
    obtain ⟨a, b, c, p⟩ := v
    simp only at h
    subst h
    go_enter Tryz.func140, Tryz.ntmps140
    go_wp2_with fail
    refine (CE.out _).mono ?_
    rintro e w1 ⟨rfl, b1⟩
    obtain ⟨c1, c2, f1, f2, lt, hB⟩ := keep2 b1
    clear b1 CE
    go_wp2_with fail
    exact bodyPost_ret (by simp [results, Tryz.results140, go_sem, *]) rfl ⟨rfl, (by repeat (first | with_reducible assumption | with_reducible exact Below.refl _ _ | with_reducible refine Below.setCell ?_ (by first | exact Nat.le_refl _ | (simp; done) | (simp; omega)) _ | with_reducible refine bal ?_ _ | with_reducible refine Below.alloc ?_ (by first | exact Nat.le_refl _ | (simp; done) | (simp; omega)) _ | with_reducible refine Below.drew ?_))⟩
  · have e : Sp.bumpA v = Sp.firstC (v.a + 1) 0 0 := if_neg h
    have ev : (pl (Sp.firstC (v.a + 1) 0 0)).val = cutv (v.a + 1) 0 0 ⟨#[48]⟩ false false := rfl
    rw [e, ev]
    have CE : Hid (∀ W, Calls Tryz.prog 52 #[.int .i64 (v.a + 1), .int .i64 0, .int .i64 0] W fun e w' => e = .returned (cutv (v.a + 1) 0 0 ⟨#[48]⟩ false false) ∧ RowKit.Below W.heap.size W w') := fun W => first_raw _ _ _ W
    have w1 : wrap64 (v.a + 1) = v.a + 1 := by unfold wrap64; omega
    clear e ev hv hp
    obtain ⟨a, b, c, p⟩ := v
    simp only at h w1 CE ⊢
    go_enter Tryz.func140, Tryz.ntmps140
    go_wp2_with fail
    refine (CE.out _).mono ?_
    rintro e w1 ⟨rfl, b1⟩
    obtain ⟨c1, c2, f1, f2, lt, hB⟩ := keep2 b1
    clear b1 CE
    go_wp2_with fail
    exact bodyPost_ret (by simp [results, Tryz.results140, go_sem, *]) rfl ⟨rfl, (by repeat (first | with_reducible assumption | with_reducible exact Below.refl _ _ | with_reducible refine Below.setCell ?_ (by first | exact Nat.le_refl _ | (simp; done) | (simp; omega)) _ | with_reducible refine bal ?_ _ | with_reducible refine Below.alloc ?_ (by first | exact Nat.le_refl _ | (simp; done) | (simp; omega)) _ | with_reducible refine Below.drew ?_))⟩
set_option maxHeartbeats 2000000 in
theorem bumpB_any (v : V) (x : Bool) (w : World) (hv : v.ok = true) :
    Calls Tryz.prog 139 #[cutv v.a v.b v.c v.p x false] w fun e w' => e = .returned (pl (Sp.bumpB v)).val ∧ RowKit.Below w.heap.size w w' := by
  have hp := Sp.parts_ok hv
  by_cases h : v.b = 999999
  · have e : Sp.bumpB v = Sp.bumpA v := if_pos h
    rw [e]
    have CE : Hid (∀ W, Calls Tryz.prog 140 #[cutv v.a v.b v.c v.p x false] W fun e w' => e = .returned (pl (Sp.bumpA v)).val ∧ RowKit.Below W.heap.size W w') := fun W => bumpA_any v x W hv
    clear e
    generalize pl (Sp.bumpA v) = u at *
    clear hv hp
    obtain ⟨a, b, c, p⟩ := v
    simp only at h
    subst h
    go_enter Tryz.func139, Tryz.ntmps139
    go_wp2_with fail
    refine (CE.out _).mono ?_
    rintro e w1 ⟨rfl, b1⟩
    obtain ⟨c1, c2, f1, f2, lt, hB⟩ := keep2 b1
    clear b1 CE
    go_wp2_with fail
    exact bodyPost_ret (by simp [results, Tryz.results139, go_sem, *]) rfl ⟨rfl, (by repeat (first | with_reducible assumption | with_reducible exact Below.refl _ _ | with_reducible refine Below.setCell ?_ (by first | exact Nat.le_refl _ | (simp; done) | (simp; omega)) _ | with_reducible refine bal ?_ _ | with_reducible refine Below.alloc ?_ (by first | exact Nat.le_refl _ | (simp; done) | (simp; omega)) _ | with_reducible refine Below.drew ?_))⟩
  · have e : Sp.bumpB v = Sp.firstC v.a (v.b + 1) 0 := if_neg h
    have ev : (pl (Sp.firstC v.a (v.b + 1) 0)).val = cutv v.a (v.b + 1) 0 ⟨#[48]⟩ false false := rfl
    rw [e, ev]
    have CE : Hid (∀ W, Calls Tryz.prog 52 #[.int .i64 v.a, .int .i64 (v.b + 1), .int .i64 0] W fun e w' => e = .returned (cutv v.a (v.b + 1) 0 ⟨#[48]⟩ false false) ∧ RowKit.Below W.heap.size W w') := fun W => first_raw _ _ _ W
    have w1 : wrap64 (v.b + 1) = v.b + 1 := by unfold wrap64; omega
    clear e ev hv hp
    obtain ⟨a, b, c, p⟩ := v
    simp only at h w1 CE ⊢
    go_enter Tryz.func139, Tryz.ntmps139
    go_wp2_with fail
    refine (CE.out _).mono ?_
    rintro e w1 ⟨rfl, b1⟩
    obtain ⟨c1, c2, f1, f2, lt, hB⟩ := keep2 b1
    clear b1 CE
    go_wp2_with fail
    exact bodyPost_ret (by simp [results, Tryz.results139, go_sem, *]) rfl ⟨rfl, (by repeat (first | with_reducible assumption | with_reducible exact Below.refl _ _ | with_reducible refine Below.setCell ?_ (by first | exact Nat.le_refl _ | (simp; done) | (simp; omega)) _ | with_reducible refine bal ?_ _ | with_reducible refine Below.alloc ?_ (by first | exact Nat.le_refl _ | (simp; done) | (simp; omega)) _ | with_reducible refine Below.drew ?_))⟩
set_option maxHeartbeats 2000000 in
theorem bumpC_any (v : V) (x : Bool) (w : World) (hv : v.ok = true) :
    Calls Tryz.prog 162 #[cutv v.a v.b v.c v.p x false] w fun e w' => e = .returned (pl (Sp.bumpC v)).val ∧ RowKit.Below w.heap.size w w' := by
  have hp := Sp.parts_ok hv
  by_cases h : v.c = 999999
  · have e : Sp.bumpC v = Sp.bumpB v := if_pos h
    rw [e]
    have CE : Hid (∀ W, Calls Tryz.prog 139 #[cutv v.a v.b v.c v.p x false] W fun e w' => e = .returned (pl (Sp.bumpB v)).val ∧ RowKit.Below W.heap.size W w') := fun W => bumpB_any v x W hv
    clear e
    generalize pl (Sp.bumpB v) = u at *
    clear hv hp
    obtain ⟨a, b, c, p⟩ := v
    simp only at h
    subst h
    go_enter Tryz.func162, Tryz.ntmps162
    go_wp2_with fail
    refine (CE.out _).mono ?_
    rintro e w1 ⟨rfl, b1⟩
    obtain ⟨c1, c2, f1, f2, lt, hB⟩ := keep2 b1
    clear b1 CE
    go_wp2_with fail
    exact bodyPost_ret (by simp [results, Tryz.results162, go_sem, *]) rfl ⟨rfl, (by repeat (first | with_reducible assumption | with_reducible exact Below.refl _ _ | with_reducible refine Below.setCell ?_ (by first | exact Nat.le_refl _ | (simp; done) | (simp; omega)) _ | with_reducible refine bal ?_ _ | with_reducible refine Below.alloc ?_ (by first | exact Nat.le_refl _ | (simp; done) | (simp; omega)) _ | with_reducible refine Below.drew ?_))⟩
  · have e : Sp.bumpC v = Sp.firstC v.a v.b (v.c + 1) := if_neg h
    have ev : (pl (Sp.firstC v.a v.b (v.c + 1))).val = cutv v.a v.b (v.c + 1) ⟨#[48]⟩ false false := rfl
    rw [e, ev]
    have CE : Hid (∀ W, Calls Tryz.prog 52 #[.int .i64 v.a, .int .i64 v.b, .int .i64 (v.c + 1)] W fun e w' => e = .returned (cutv v.a v.b (v.c + 1) ⟨#[48]⟩ false false) ∧ RowKit.Below W.heap.size W w') := fun W => first_raw _ _ _ W
    have w1 : wrap64 (v.c + 1) = v.c + 1 := by unfold wrap64; omega
    clear e ev hv hp
    obtain ⟨a, b, c, p⟩ := v
    simp only at h w1 CE ⊢
    go_enter Tryz.func162, Tryz.ntmps162
    go_wp2_with fail
    refine (CE.out _).mono ?_
    rintro e w1 ⟨rfl, b1⟩
    obtain ⟨c1, c2, f1, f2, lt, hB⟩ := keep2 b1
    clear b1 CE
    go_wp2_with fail
    exact bodyPost_ret (by simp [results, Tryz.results162, go_sem, *]) rfl ⟨rfl, (by repeat (first | with_reducible assumption | with_reducible exact Below.refl _ _ | with_reducible refine Below.setCell ?_ (by first | exact Nat.le_refl _ | (simp; done) | (simp; omega)) _ | with_reducible refine bal ?_ _ | with_reducible refine Below.alloc ?_ (by first | exact Nat.le_refl _ | (simp; done) | (simp; omega)) _ | with_reducible refine Below.drew ?_))⟩
set_option maxHeartbeats 2000000 in
theorem bumpL_any (v : V) (x : Bool) (w : World) (hv : v.ok = true) :
    Calls Tryz.prog 142 #[cutv v.a v.b v.c v.p x false] w fun e w' => e = .returned (pl (Sp.bumpL v)).val ∧ RowKit.Below w.heap.size w w' := by
  have CA : Hid (∀ W, Calls Tryz.prog 140 #[cutv v.a v.b v.c v.p x false] W fun e w' => e = .returned (pl (Sp.bumpA v)).val ∧ RowKit.Below W.heap.size W w') := fun W => bumpA_any v x W hv
  have CB : Hid (∀ W, Calls Tryz.prog 139 #[cutv v.a v.b v.c v.p x false] W fun e w' => e = .returned (pl (Sp.bumpB v)).val ∧ RowKit.Below W.heap.size W w') := fun W => bumpB_any v x W hv
  have CC : Hid (∀ W, Calls Tryz.prog 162 #[cutv v.a v.b v.c v.p x false] W fun e w' => e = .returned (pl (Sp.bumpC v)).val ∧ RowKit.Below W.heap.size W w') := fun W => bumpC_any v x W hv
  by_cases h1 : 0 < v.a
  · have e : Sp.bumpL v = Sp.bumpA v := if_pos h1
    rw [e]
    have CE := CA
    clear CA CB CC e hv
    generalize pl (Sp.bumpA v) = u at *
    obtain ⟨a, b, c, p⟩ := v
    simp only at h1
    go_enter Tryz.func142, Tryz.ntmps142
    go_wp2_with fail
    refine (CE.out _).mono ?_
    rintro e w1 ⟨rfl, b1⟩
    obtain ⟨c1, c2, f1, f2, lt, hB⟩ := keep2 b1
    clear b1 CE
    go_wp2_with fail
    exact bodyPost_ret (by simp [results, Tryz.results142, go_sem, *]) rfl ⟨rfl, (by repeat (first | with_reducible assumption | with_reducible exact Below.refl _ _ | with_reducible refine Below.setCell ?_ (by first | exact Nat.le_refl _ | (simp; done) | (simp; omega)) _ | with_reducible refine bal ?_ _ | with_reducible refine Below.alloc ?_ (by first | exact Nat.le_refl _ | (simp; done) | (simp; omega)) _ | with_reducible refine Below.drew ?_))⟩
  · by_cases h2 : 0 < v.b
    · have e : Sp.bumpL v = Sp.bumpB v := (if_neg h1).trans (if_pos h2)
      rw [e]
      have CE := CB
      clear CA CB CC e hv
      generalize pl (Sp.bumpB v) = u at *
      obtain ⟨a, b, c, p⟩ := v
      simp only at h1 h2
      go_enter Tryz.func142, Tryz.ntmps142
      go_wp2_with fail
      refine (CE.out _).mono ?_
      rintro e w1 ⟨rfl, b1⟩
      obtain ⟨c1, c2, f1, f2, lt, hB⟩ := keep2 b1
      clear b1 CE
      go_wp2_with fail
      exact bodyPost_ret (by simp [results, Tryz.results142, go_sem, *]) rfl ⟨rfl, (by repeat (first | with_reducible assumption | with_reducible exact Below.refl _ _ | with_reducible refine Below.setCell ?_ (by first | exact Nat.le_refl _ | (simp; done) | (simp; omega)) _ | with_reducible refine bal ?_ _ | with_reducible refine Below.alloc ?_ (by first | exact Nat.le_refl _ | (simp; done) | (simp; omega)) _ | with_reducible refine Below.drew ?_))⟩
    · have e : Sp.bumpL v = Sp.bumpC v := (if_neg h1).trans (if_neg h2)
      rw [e]
      have CE := CC
      clear CA CB CC e hv
      generalize pl (Sp.bumpC v) = u at *
      obtain ⟨a, b, c, p⟩ := v
      simp only at h1 h2
      go_enter Tryz.func142, Tryz.ntmps142
      go_wp2_with fail
      refine (CE.out _).mono ?_
      rintro e w1 ⟨rfl, b1⟩
      obtain ⟨c1, c2, f1, f2, lt, hB⟩ := keep2 b1
      clear b1 CE
      go_wp2_with fail
      exact bodyPost_ret (by simp [results, Tryz.results142, go_sem, *]) rfl ⟨rfl, (by repeat (first | with_reducible assumption | with_reducible exact Below.refl _ _ | with_reducible refine Below.setCell ?_ (by first | exact Nat.le_refl _ | (simp; done) | (simp; omega)) _ | with_reducible refine bal ?_ _ | with_reducible refine Below.alloc ?_ (by first | exact Nat.le_refl _ | (simp; done) | (simp; omega)) _ | with_reducible refine Below.drew ?_))⟩
end Go.Proofs.YtninheehoabbbaaGreatDoor
