/-
  Places and spans as values; contracts of ahead, behind, first, start, end, cmpBool, low, high, between.
-/
import Derived.Test.YtninheehoabbbaaGreatDoorM17
import Derived.Test.YtninheehoabbbaaGreatDoorV7
namespace Go.Proofs.YtninheehoabbbaaGreatDoor
set_option linter.unusedSimpArgs false
set_option linter.unusedVariables false
open Go.RowKit Go.Vr Go.Sort Go.Tx Go.Lib
attribute [local go_sem] setCellDrewN allocDrewN

abbrev cutv (a b c : Int) (p : ByteArray) (past fin : Bool) : Value := .agg #[.int .i64 a, .int .i64 b, .int .i64 c, .string p, .bool past, .bool fin]
abbrev spv (a b c : Int) (p : ByteArray) (a' b' c' : Int) (p' : ByteArray) (ab inn op : Bool) : Value := .agg #[.int .i64 a, .int .i64 b, .int .i64 c, .string p, .int .i64 a', .int .i64 b', .int .i64 c', .string p', .bool ab, .bool inn, .bool op]

theorem bal {a w : World} (h : Below a.heap.size a w) (o : Obj) : Below a.heap.size a (w.alloc o) := h.alloc h.size o
/-- A variable's block behind a call that turns nothing of what was there. -/
theorem keep {w w1 : World} {vs : Array Value} {T : TypeId} (N : Nat) (hN : w.heap.size = N) (hb : Below (w.alloc (.cells vs T)).heap.size (w.alloc (.cells vs T)) w1) :
    (∀ i, w1.cell? ⟨N, i, none⟩ = vs[i]?) ∧ (∀ i, w1.frozen? ⟨N, i, none⟩ = false) ∧ N < w1.heap.size ∧ Below w.heap.size w w1 := by
  subst hN
  obtain ⟨h1, h2⟩ := bcell hb
  refine ⟨fun i => ?_, fun i => ?_, ?_, ?_⟩
  · rw [h1 _ _ (by simp)]; simp [go_sem]
  · rw [h2 _ _ (by simp)]; simp [go_sem]
  · have := hb.size; simp at this; omega
  · exact ((Below.refl _ _).alloc (Nat.le_refl _) _).trans (hb.mono (by simp))

set_option maxHeartbeats 400000 in
theorem ahead_raw (a b c : Int) (p : ByteArray) (w : World) :
    Calls Tryz.prog 31 #[ver a b c p] w fun e w' => e = .returned (cutv a b c p false false) ∧ Below w.heap.size w w' := by
  go_enter Tryz.func31, Tryz.ntmps31
  go_wp2_with fail
  exact bodyPost_ret (by simp [results, Tryz.results31, go_sem]) rfl ⟨rfl, (by repeat (first | with_reducible assumption | with_reducible exact Below.refl _ _ | with_reducible refine Below.setCell ?_ (by first | exact Nat.le_refl _ | (simp; done) | (simp; omega)) _ | with_reducible refine bal ?_ _ | with_reducible refine Below.alloc ?_ (by first | exact Nat.le_refl _ | (simp; done) | (simp; omega)) _ | with_reducible refine Below.drew ?_))⟩
set_option maxHeartbeats 400000 in
theorem behind_raw (a b c : Int) (p : ByteArray) (w : World) :
    Calls Tryz.prog 103 #[ver a b c p] w fun e w' => e = .returned (cutv a b c p true false) ∧ Below w.heap.size w w' := by
  go_enter Tryz.func103, Tryz.ntmps103
  go_wp2_with fail
  exact bodyPost_ret (by simp [results, Tryz.results103, go_sem]) rfl ⟨rfl, (by repeat (first | with_reducible assumption | with_reducible exact Below.refl _ _ | with_reducible refine Below.setCell ?_ (by first | exact Nat.le_refl _ | (simp; done) | (simp; omega)) _ | with_reducible refine bal ?_ _ | with_reducible refine Below.alloc ?_ (by first | exact Nat.le_refl _ | (simp; done) | (simp; omega)) _ | with_reducible refine Below.drew ?_))⟩
set_option maxHeartbeats 400000 in
theorem end_raw (w : World) :
    Calls Tryz.prog 27 #[] w fun e w' => e = .returned (cutv 0 0 0 ⟨#[]⟩ false true) ∧ Below w.heap.size w w' := by
  go_enter Tryz.func27, Tryz.ntmps27
  go_wp2_with fail
  exact bodyPost_ret (by simp [results, Tryz.results27, go_sem]) rfl ⟨rfl, (by repeat (first | with_reducible assumption | with_reducible exact Below.refl _ _ | with_reducible refine Below.setCell ?_ (by first | exact Nat.le_refl _ | (simp; done) | (simp; omega)) _ | with_reducible refine bal ?_ _ | with_reducible refine Below.alloc ?_ (by first | exact Nat.le_refl _ | (simp; done) | (simp; omega)) _ | with_reducible refine Below.drew ?_))⟩
set_option maxHeartbeats 400000 in
theorem first_raw (a b c : Int) (w : World) :
    Calls Tryz.prog 52 #[.int .i64 a, .int .i64 b, .int .i64 c] w fun e w' => e = .returned (cutv a b c ⟨#[48]⟩ false false) ∧ Below w.heap.size w w' := by
  have CA := fun W => ahead_raw a b c ⟨#[48]⟩ W
  go_enter Tryz.func52, Tryz.ntmps52
  go_wp2_with fail
  refine (CA _).mono ?_
  rintro e w1 ⟨rfl, b1⟩
  obtain ⟨c1, f1, l1, hB⟩ := keep w.heap.size rfl b1
  clear b1 CA
  go_wp2_with fail
  exact bodyPost_ret (by simp [results, Tryz.results52, go_sem, *]) rfl ⟨rfl, (by repeat (first | with_reducible assumption | with_reducible exact Below.refl _ _ | with_reducible refine Below.setCell ?_ (by first | exact Nat.le_refl _ | (simp; done) | (simp; omega)) _ | with_reducible refine bal ?_ _ | with_reducible refine Below.alloc ?_ (by first | exact Nat.le_refl _ | (simp; done) | (simp; omega)) _ | with_reducible refine Below.drew ?_))⟩
set_option maxHeartbeats 400000 in
theorem cmpBool_raw (a b : Bool) (w : World) :
    Calls Tryz.prog 59 #[.bool a, .bool b] w fun e w' => e = .returned (.int .i64 (Sp.cmpB a b)) ∧ w' = w := by
  cases a <;> cases b
  all_goals
    go_enter Tryz.func59, Tryz.ntmps59
    go_wp2_with fail
    go_ret
    exact ⟨rfl, rfl⟩
set_option maxHeartbeats 400000 in
theorem low_raw (a b c : Int) (p : ByteArray) (a' b' c' : Int) (p' : ByteArray) (ab inn op : Bool) (w : World) :
    Calls Tryz.prog 25 #[spv a b c p a' b' c' p' ab inn op] w fun e w' => e = .returned (cutv a b c p ab false) ∧ Below w.heap.size w w' := by
  go_enter Tryz.func25, Tryz.ntmps25
  go_wp2_with fail
  exact bodyPost_ret (by simp [results, Tryz.results25, go_sem]) rfl ⟨rfl, (by repeat (first | with_reducible assumption | with_reducible exact Below.refl _ _ | with_reducible refine Below.setCell ?_ (by first | exact Nat.le_refl _ | (simp; done) | (simp; omega)) _ | with_reducible refine bal ?_ _ | with_reducible refine Below.alloc ?_ (by first | exact Nat.le_refl _ | (simp; done) | (simp; omega)) _ | with_reducible refine Below.drew ?_))⟩
set_option maxHeartbeats 400000 in
theorem high_raw (a b c : Int) (p : ByteArray) (a' b' c' : Int) (p' : ByteArray) (ab inn : Bool) (w : World) :
    Calls Tryz.prog 26 #[spv a b c p a' b' c' p' ab inn false] w fun e w' => e = .returned (cutv a' b' c' p' inn false) ∧ Below w.heap.size w w' := by
  go_enter Tryz.func26, Tryz.ntmps26
  go_wp2_with fail
  exact bodyPost_ret (by simp [results, Tryz.results26, go_sem]) rfl ⟨rfl, (by repeat (first | with_reducible assumption | with_reducible exact Below.refl _ _ | with_reducible refine Below.setCell ?_ (by first | exact Nat.le_refl _ | (simp; done) | (simp; omega)) _ | with_reducible refine bal ?_ _ | with_reducible refine Below.alloc ?_ (by first | exact Nat.le_refl _ | (simp; done) | (simp; omega)) _ | with_reducible refine Below.drew ?_))⟩
set_option maxHeartbeats 400000 in
theorem high_open (a b c : Int) (p : ByteArray) (a' b' c' : Int) (p' : ByteArray) (ab inn : Bool) (w : World) :
    Calls Tryz.prog 26 #[spv a b c p a' b' c' p' ab inn true] w fun e w' => e = .returned (cutv 0 0 0 ⟨#[]⟩ false true) ∧ Below w.heap.size w w' := by
  have CE := fun W => end_raw W
  go_enter Tryz.func26, Tryz.ntmps26
  go_wp2_with fail
  have hb : Below w.heap.size w (w.alloc (.cells #[.int .i64 a, .int .i64 b, .int .i64 c, .string p, .int .i64 a', .int .i64 b', .int .i64 c', .string p', .bool ab, .bool inn, .bool true] 44)) := (by repeat (first | with_reducible assumption | with_reducible exact Below.refl _ _ | with_reducible refine Below.setCell ?_ (by first | exact Nat.le_refl _ | (simp; done) | (simp; omega)) _ | with_reducible refine bal ?_ _ | with_reducible refine Below.alloc ?_ (by first | exact Nat.le_refl _ | (simp; done) | (simp; omega)) _ | with_reducible refine Below.drew ?_))
  refine (CE _).mono ?_
  rintro e w1 ⟨rfl, b1⟩
  obtain ⟨c1, f1, l1, hB⟩ := keep (w.heap.size + 1) (by simp) b1
  have hB := hb.trans (hB.mono (by simp))
  clear b1 CE hb
  go_wp2_with fail
  exact bodyPost_ret (by simp [results, Tryz.results26, go_sem, *]) rfl ⟨rfl, (by repeat (first | with_reducible assumption | with_reducible exact Below.refl _ _ | with_reducible refine Below.setCell ?_ (by first | exact Nat.le_refl _ | (simp; done) | (simp; omega)) _ | with_reducible refine bal ?_ _ | with_reducible refine Below.alloc ?_ (by first | exact Nat.le_refl _ | (simp; done) | (simp; omega)) _ | with_reducible refine Below.drew ?_))⟩
set_option maxHeartbeats 400000 in
theorem start_raw (w : World) :
    Calls Tryz.prog 23 #[] w fun e w' => e = .returned (cutv 0 0 0 ⟨#[48]⟩ false false) ∧ Below w.heap.size w w' := by
  have CA := fun W => first_raw 0 0 0 W
  go_enter Tryz.func23, Tryz.ntmps23
  go_wp2_with fail
  refine (CA _).mono ?_
  rintro e w1 ⟨rfl, b1⟩
  obtain ⟨c1, f1, l1, hB⟩ := keep w.heap.size rfl b1
  clear b1 CA
  go_wp2_with fail
  exact bodyPost_ret (by simp [results, Tryz.results23, go_sem, *]) rfl ⟨rfl, (by repeat (first | with_reducible assumption | with_reducible exact Below.refl _ _ | with_reducible refine Below.setCell ?_ (by first | exact Nat.le_refl _ | (simp; done) | (simp; omega)) _ | with_reducible refine bal ?_ _ | with_reducible refine Below.alloc ?_ (by first | exact Nat.le_refl _ | (simp; done) | (simp; omega)) _ | with_reducible refine Below.drew ?_))⟩
set_option maxHeartbeats 400000 in
theorem between_raw (a b c : Int) (p : ByteArray) (a' b' c' : Int) (p' : ByteArray) (ab inn e1 : Bool) (w : World) :
    Calls Tryz.prog 53 #[cutv a b c p ab e1, cutv a' b' c' p' inn false] w fun e w' => e = .returned (spv a b c p a' b' c' p' ab inn false) ∧ Below w.heap.size w w' := by
  go_enter Tryz.func53, Tryz.ntmps53
  go_wp2_with fail
  exact bodyPost_ret (by simp [results, Tryz.results53, go_sem]) rfl ⟨rfl, (by repeat (first | with_reducible assumption | with_reducible exact Below.refl _ _ | with_reducible refine Below.setCell ?_ (by first | exact Nat.le_refl _ | (simp; done) | (simp; omega)) _ | with_reducible refine bal ?_ _ | with_reducible refine Below.alloc ?_ (by first | exact Nat.le_refl _ | (simp; done) | (simp; omega)) _ | with_reducible refine Below.drew ?_))⟩
set_option maxHeartbeats 400000 in
theorem between_end (a b c : Int) (p : ByteArray) (a' b' c' : Int) (p' : ByteArray) (ab inn e1 : Bool) (w : World) :
    Calls Tryz.prog 53 #[cutv a b c p ab e1, cutv a' b' c' p' inn true] w fun e w' => e = .returned (spv a b c p 0 0 0 ⟨#[]⟩ ab false true) ∧ Below w.heap.size w w' := by
  go_enter Tryz.func53, Tryz.ntmps53
  go_wp2_with fail
  exact bodyPost_ret (by simp [results, Tryz.results53, go_sem]) rfl ⟨rfl, (by repeat (first | with_reducible assumption | with_reducible exact Below.refl _ _ | with_reducible refine Below.setCell ?_ (by first | exact Nat.le_refl _ | (simp; done) | (simp; omega)) _ | with_reducible refine bal ?_ _ | with_reducible refine Below.alloc ?_ (by first | exact Nat.le_refl _ | (simp; done) | (simp; omega)) _ | with_reducible refine Below.drew ?_))⟩
end Go.Proofs.YtninheehoabbbaaGreatDoor
