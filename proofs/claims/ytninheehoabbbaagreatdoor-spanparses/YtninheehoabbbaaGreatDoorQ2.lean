/-
  Contracts of the reference's empty, first, apart, longer, Least.
-/
import Derived.Test.YtninheehoabbbaaGreatDoorQ1
namespace Go.Proofs.YtninheehoabbbaaGreatDoor
set_option linter.unusedSimpArgs false
set_option linter.unusedVariables false
open Go.RowKit Go.Vr Go.Sort Go.Tx Go.Lib
attribute [local go_sem] setCellDrewN allocDrewN

theorem ok_1000 {v : V} (h : v.ok = true) : v.p.size ≤ 1000 := Nat.le_trans (ok_size h) (by omega)
theorem ret_b {a b : Bool} (h : a = b) : Ending.returned (.bool a) = .returned (.bool b) := by rw [h]

set_option maxHeartbeats 4000000 in
theorem rempty_any (q : Pt) (h : okPt q) (w : World) :
    Calls Tryz.prog 72 #[q.val] w fun e w' => e = .returned (.bool (!decide (Sp.cmpC (pS q).1 (pS q).2 < 0))) ∧ RowKit.Below w.heap.size w w' := by
  have CC : Hid (∀ W, Calls Tryz.prog 105 #[ver q.a' q.b' q.c' q.p', ver q.a q.b q.c q.p] W fun e w' => e = .returned (.int .i64 (cmpV q.hv q.lv)) ∧ RowKit.Below W.heap.size W w') := fun W => rcmp_any q.hv q.lv W (ok_1000 h.2) (ok_1000 h.1)
  have HX := hide (empty_is q)
  have hb := ord_ver.bd q.hv q.lv
  generalize cmpV q.hv q.lv = k at *
  generalize (!decide (Sp.cmpC (pS q).1 (pS q).2 < 0)) = res at *
  clear h
  obtain ⟨a, b, c, p, a', b', c', p', x, y, z⟩ := q
  have h3 : k = -1 ∨ k = 0 ∨ k = 1 := by omega
  clear hb
  rcases h3 with rfl | rfl | rfl <;> cases x <;> cases y <;> cases z
  all_goals
    go_enter Tryz.func72, Tryz.ntmps72
    go_wp2_with fail
    refine (CC.out _).mono ?_
    rintro e w1 ⟨rfl, b1⟩
    obtain ⟨c1, f1, l1, hB⟩ := keep w.heap.size rfl b1
    clear b1 CC
    go_wp2_with fail
    go_ret
    exact ⟨ret_b (by rw [HX.out]; rfl), (by repeat (first | with_reducible assumption | with_reducible exact Below.refl _ _ | with_reducible refine Below.setCell ?_ (by first | exact Nat.le_refl _ | (simp; done) | (simp; omega)) _ | with_reducible refine bal ?_ _ | with_reducible refine Below.alloc ?_ (by first | exact Nat.le_refl _ | (simp; done) | (simp; omega)) _ | with_reducible refine Below.drew ?_))⟩
set_option maxHeartbeats 4000000 in
theorem rfirst_any (q r : Pt) (h : okPt q) (k : okPt r) (w : World) :
    Calls Tryz.prog 73 #[q.val, r.val] w fun e w' => e = .returned (.bool (decide (Sp.cmpC (pS q).1 (pS r).1 < 0))) ∧ RowKit.Below w.heap.size w w' := by
  have CC : Hid (∀ W, Calls Tryz.prog 105 #[ver q.a q.b q.c q.p, ver r.a r.b r.c r.p] W fun e w' => e = .returned (.int .i64 (cmpV q.lv r.lv)) ∧ RowKit.Below W.heap.size W w') := fun W => rcmp_any q.lv r.lv W (ok_1000 h.1) (ok_1000 k.1)
  have HX := hide (first_is q r)
  have hb := ord_ver.bd q.lv r.lv
  generalize cmpV q.lv r.lv = kc at *
  generalize decide (Sp.cmpC (pS q).1 (pS r).1 < 0) = res at *
  clear h k
  obtain ⟨a, b, c, p, a', b', c', p', x, y, z⟩ := q
  obtain ⟨a2, b2, c2, p2, a2', b2', c2', p2', x2, y2, z2⟩ := r
  have h3 : kc = -1 ∨ kc = 0 ∨ kc = 1 := by omega
  clear hb
  rcases h3 with rfl | rfl | rfl <;> cases x <;> cases x2
  all_goals
    go_enter Tryz.func73, Tryz.ntmps73
    go_wp2_with fail
    refine (CC.out _).mono ?_
    rintro e w1 ⟨rfl, b1⟩
    obtain ⟨c1, c2, f1, f2, lt, hB⟩ := keep2 b1
    clear b1 CC
    go_wp2_with fail
    go_ret
    exact ⟨ret_b (by rw [HX.out]; rfl), (by repeat (first | with_reducible assumption | with_reducible exact Below.refl _ _ | with_reducible refine Below.setCell ?_ (by first | exact Nat.le_refl _ | (simp; done) | (simp; omega)) _ | with_reducible refine bal ?_ _ | with_reducible refine Below.alloc ?_ (by first | exact Nat.le_refl _ | (simp; done) | (simp; omega)) _ | with_reducible refine Below.drew ?_))⟩
set_option maxHeartbeats 4000000 in
theorem rapart_any (q r : Pt) (h : okPt q) (k : okPt r) (w : World) :
    Calls Tryz.prog 74 #[q.val, r.val] w fun e w' => e = .returned (.bool (decide (Sp.cmpC (pS q).2 (pS r).1 < 0))) ∧ RowKit.Below w.heap.size w w' := by
  have CC : Hid (∀ W, Calls Tryz.prog 105 #[ver q.a' q.b' q.c' q.p', ver r.a r.b r.c r.p] W fun e w' => e = .returned (.int .i64 (cmpV q.hv r.lv)) ∧ RowKit.Below W.heap.size W w') := fun W => rcmp_any q.hv r.lv W (ok_1000 h.2) (ok_1000 k.1)
  have HX := hide (apart_is q r)
  have hb := ord_ver.bd q.hv r.lv
  generalize cmpV q.hv r.lv = kc at *
  generalize decide (Sp.cmpC (pS q).2 (pS r).1 < 0) = res at *
  clear h k
  obtain ⟨a, b, c, p, a', b', c', p', x, y, z⟩ := q
  obtain ⟨a2, b2, c2, p2, a2', b2', c2', p2', x2, y2, z2⟩ := r
  cases z with
  | true =>
    go_enter Tryz.func74, Tryz.ntmps74
    go_wp2_with fail
    go_ret
    exact ⟨ret_b (by rw [HX.out]; rfl), (by repeat (first | with_reducible assumption | with_reducible exact Below.refl _ _ | with_reducible refine Below.setCell ?_ (by first | exact Nat.le_refl _ | (simp; done) | (simp; omega)) _ | with_reducible refine bal ?_ _ | with_reducible refine Below.alloc ?_ (by first | exact Nat.le_refl _ | (simp; done) | (simp; omega)) _ | with_reducible refine Below.drew ?_))⟩
  | false =>
    have h3 : kc = -1 ∨ kc = 0 ∨ kc = 1 := by omega
    clear hb
    rcases h3 with rfl | rfl | rfl <;> cases y <;> cases x2
    all_goals
      go_enter Tryz.func74, Tryz.ntmps74
      go_wp2_with fail
      refine (CC.out _).mono ?_
      rintro e w1 ⟨rfl, b1⟩
      obtain ⟨c1, c2, f1, f2, lt, hB⟩ := keep2 b1
      clear b1 CC
      go_wp2_with fail
      go_ret
      exact ⟨ret_b (by rw [HX.out]; rfl), (by repeat (first | with_reducible assumption | with_reducible exact Below.refl _ _ | with_reducible refine Below.setCell ?_ (by first | exact Nat.le_refl _ | (simp; done) | (simp; omega)) _ | with_reducible refine bal ?_ _ | with_reducible refine Below.alloc ?_ (by first | exact Nat.le_refl _ | (simp; done) | (simp; omega)) _ | with_reducible refine Below.drew ?_))⟩
set_option maxHeartbeats 4000000 in
theorem rlonger_any (q r : Pt) (h : okPt q) (k : okPt r) (w : World) :
    Calls Tryz.prog 75 #[q.val, r.val] w fun e w' => e = .returned (.bool (decide (Sp.cmpC (pS r).2 (pS q).2 < 0))) ∧ RowKit.Below w.heap.size w w' := by
  have CC : Hid (∀ W, Calls Tryz.prog 105 #[ver q.a' q.b' q.c' q.p', ver r.a' r.b' r.c' r.p'] W fun e w' => e = .returned (.int .i64 (cmpV q.hv r.hv)) ∧ RowKit.Below W.heap.size W w') := fun W => rcmp_any q.hv r.hv W (ok_1000 h.2) (ok_1000 k.2)
  have HX := hide (longer_is q r)
  have hb := ord_ver.bd q.hv r.hv
  generalize cmpV q.hv r.hv = kc at *
  generalize decide (Sp.cmpC (pS r).2 (pS q).2 < 0) = res at *
  clear h k
  obtain ⟨a, b, c, p, a', b', c', p', x, y, z⟩ := q
  obtain ⟨a2, b2, c2, p2, a2', b2', c2', p2', x2, y2, z2⟩ := r
  by_cases hz : (z || z2) = true
  · have hq : (z = true ∧ z2 = false) ∨ (z = false ∧ z2 = true) ∨ (z = true ∧ z2 = true) := by revert hz; cases z <;> cases z2 <;> simp
    clear hz
    rcases hq with ⟨rfl, rfl⟩ | ⟨rfl, rfl⟩ | ⟨rfl, rfl⟩
    all_goals
      go_enter Tryz.func75, Tryz.ntmps75
      go_wp2_with fail
      go_ret
      exact ⟨ret_b (by rw [HX.out]; rfl), (by repeat (first | with_reducible assumption | with_reducible exact Below.refl _ _ | with_reducible refine Below.setCell ?_ (by first | exact Nat.le_refl _ | (simp; done) | (simp; omega)) _ | with_reducible refine bal ?_ _ | with_reducible refine Below.alloc ?_ (by first | exact Nat.le_refl _ | (simp; done) | (simp; omega)) _ | with_reducible refine Below.drew ?_))⟩
  · obtain ⟨rfl, rfl⟩ : z = false ∧ z2 = false := by revert hz; cases z <;> cases z2 <;> simp
    clear hz
    have h3 : kc = -1 ∨ kc = 0 ∨ kc = 1 := by omega
    clear hb
    rcases h3 with rfl | rfl | rfl <;> cases y <;> cases y2
    all_goals
      go_enter Tryz.func75, Tryz.ntmps75
      go_wp2_with fail
      refine (CC.out _).mono ?_
      rintro e w1 ⟨rfl, b1⟩
      obtain ⟨c1, c2, f1, f2, lt, hB⟩ := keep2 b1
      clear b1 CC
      go_wp2_with fail
      go_ret
      exact ⟨ret_b (by rw [HX.out]; rfl), (by repeat (first | with_reducible assumption | with_reducible exact Below.refl _ _ | with_reducible refine Below.setCell ?_ (by first | exact Nat.le_refl _ | (simp; done) | (simp; omega)) _ | with_reducible refine bal ?_ _ | with_reducible refine Below.alloc ?_ (by first | exact Nat.le_refl _ | (simp; done) | (simp; omega)) _ | with_reducible refine Below.drew ?_))⟩
set_option maxHeartbeats 400000 in
theorem rleast_any (w : World) :
    Calls Tryz.prog 69 #[] w fun e w' => e = .returned (ver 0 0 0 ⟨#[48]⟩) ∧ RowKit.Below w.heap.size w w' := by
  go_enter Tryz.func69, Tryz.ntmps69
  go_wp2_with fail
  exact bodyPost_ret (by simp [results, Tryz.results69, go_sem]) rfl ⟨rfl, (by repeat (first | with_reducible assumption | with_reducible exact Below.refl _ _ | with_reducible refine Below.setCell ?_ (by first | exact Nat.le_refl _ | (simp; done) | (simp; omega)) _ | with_reducible refine bal ?_ _ | with_reducible refine Below.alloc ?_ (by first | exact Nat.le_refl _ | (simp; done) | (simp; omega)) _ | with_reducible refine Below.drew ?_))⟩
end Go.Proofs.YtninheehoabbbaaGreatDoor
