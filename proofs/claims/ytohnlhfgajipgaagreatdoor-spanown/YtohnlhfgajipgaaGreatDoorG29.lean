/-
  Spans as they come (an open one may have an end written): rows of such; cells written in a row of one's own.
  Contracts of the reference's empty, first, apart, longer, Least.
-/
import Derived.Test.YtohnlhfgajipgaaGreatDoorG14
import Derived.Test.YtohnlhfgajipgaaGreatDoorG28
import Derived.Test.YtohnlhfgajipgaaGreatDoorG22
import Derived.Test.YtohnlhfgajipgaaGreatDoorG10

namespace Go.Proofs.YtohnlhfgajipgaaGreatDoor
set_option linter.unusedSimpArgs false
set_option linter.unusedVariables false
open Go.RowKit Go.Vr Go.Sort Go.Tx Go.Lib

/-- Its two versions; what it says. -/
def Pt.lv (q : Pt) : V := ⟨q.a, q.b, q.c, q.p⟩
def Pt.hv (q : Pt) : V := ⟨q.a', q.b', q.c', q.p'⟩
def pS (q : Pt) : Sp.S := (some (q.lv, q.x), if q.z then none else some (q.hv, q.y))
def okPt (q : Pt) : Prop := q.lv.ok = true ∧ q.hv.ok = true
theorem pS_ok {q : Pt} (h : okPt q) : Sp.okS (pS q) := by
  refine ⟨⟨_, rfl⟩, Sp.ok_v h.1 _, ?_⟩
  unfold pS
  simp only
  split
  · exact Sp.ok_end
  · exact Sp.ok_v h.2 _
theorem pS_pt {s : Sp.S} (h : Sp.okS s) : pS (pt s) = s := by
  obtain ⟨s1, s2⟩ := s
  obtain ⟨⟨p, hp⟩, _, _⟩ := h
  simp only at hp
  subst hp
  cases s2 with
  | none => rfl
  | some q => rfl
theorem okPt_pt {s : Sp.S} (h : Sp.okS s) : okPt (pt s) := by
  obtain ⟨⟨p, hp⟩, ok1, ok2⟩ := h
  refine ⟨?_, ?_⟩
  · show (lo s).1.ok = true
    unfold lo; rw [hp]; exact ok1 p hp
  · show (hi s).1.ok = true
    unfold hi
    cases e : s.2 with
    | none => decide +kernel
    | some q => exact ok2 q e
abbrev Pt.row (q : Pt) : List Value := [.int .i64 q.a, .int .i64 q.b, .int .i64 q.c, .string q.p, .int .i64 q.a', .int .i64 q.b', .int .i64 q.c', .string q.p', .bool q.x, .bool q.y, .bool q.z]
def EP : El Pt where
  enc := fun q => q.row
  k := 11
  T := 57
  TS := 24
  z := spv 0 0 0 ⟨#[]⟩ 0 0 0 ⟨#[]⟩ false false false
  bytes := 88
  hk := fun _ => rfl
  one := by
    intro x u hu
    simp only [List.mem_cons, List.not_mem_nil, or_false] at hu
    rcases hu with rfl | rfl | rfl | rfl | rfl | rfl | rfl | rfl | rfl | rfl | rfl <;> rfl
  ht := Tryz.underlying24
  hi := ⟨Tryz.t57, by kernel_rfl, by kernel_rfl, by kernel_rfl, by kernel_rfl⟩
  hzs := by kernel_rfl
  hk0 := by decide
  hby := by decide
theorem encs_pt : ∀ l : List Sp.S, EP.encs (l.map pt) = ES.encs l
  | [] => rfl
  | s :: l => by
    show EP.enc (pt s) ++ EP.encs (l.map pt) = ES.enc s ++ ES.encs l
    rw [encs_pt l]; rfl
theorem ERow.pts {w : World} {a : Option Addr} {n : Nat} {l : List Sp.S} (h : ERow ES w a n l) : ERow EP w a n (l.map pt) :=
  ⟨by rw [List.length_map]; exact h.n, h.nil, fun x e j v hj => h.cell x e j v (by rw [← encs_pt]; exact hj)⟩
theorem EP_at {w : World} {b off len : Nat} {l : List Pt} (h : ERow EP w (some ⟨b, off, none⟩) len l) (j : Nat) (s : Pt) (hj : l[j]? = some s) :
    w.cell? ⟨b, off + j * 11, none⟩ = some (.int .i64 s.a) ∧ w.cell? ⟨b, off + j * 11 + 1, none⟩ = some (.int .i64 s.b) ∧ w.cell? ⟨b, off + j * 11 + 2, none⟩ = some (.int .i64 s.c) ∧ w.cell? ⟨b, off + j * 11 + 3, none⟩ = some (.string s.p) ∧ w.cell? ⟨b, off + j * 11 + 4, none⟩ = some (.int .i64 s.a') ∧ w.cell? ⟨b, off + j * 11 + 5, none⟩ = some (.int .i64 s.b') ∧ w.cell? ⟨b, off + j * 11 + 6, none⟩ = some (.int .i64 s.c') ∧ w.cell? ⟨b, off + j * 11 + 7, none⟩ = some (.string s.p') ∧ w.cell? ⟨b, off + j * 11 + 8, none⟩ = some (.bool s.x) ∧ w.cell? ⟨b, off + j * 11 + 9, none⟩ = some (.bool s.y) ∧ w.cell? ⟨b, off + j * 11 + 10, none⟩ = some (.bool s.z) :=
  ⟨h.at_ j s hj 0 _ rfl, h.at_ j s hj 1 _ rfl, h.at_ j s hj 2 _ rfl, h.at_ j s hj 3 _ rfl, h.at_ j s hj 4 _ rfl, h.at_ j s hj 5 _ rfl, h.at_ j s hj 6 _ rfl, h.at_ j s hj 7 _ rfl, h.at_ j s hj 8 _ rfl, h.at_ j s hj 9 _ rfl, h.at_ j s hj 10 _ rfl⟩

/-- A cell written in a row of one's own. -/
theorem own_set {w : World} {B : Nat} {T : TypeId} {k g n cap : Nat} {xs : List Value} (h : w.ownsRow B T k (.slice (some ⟨g, 0, .none⟩) n cap) n xs) (i : Nat) (u : Value) :
    (w.setCell ⟨g, i, .none⟩ u).ownsRow B T k (.slice (some ⟨g, 0, .none⟩) n cap) n (xs.set i u) := by
  refine ⟨by rw [List.length_set]; exact h.1, ?_⟩
  rcases h.2 with ⟨e, _⟩ | ⟨g', cap', cur, e, hb, hg, hnc, hcm, hsz, htk⟩
  · exact nomatch e
  · injection e with e1 _ e3
    injection e1 with e1
    injection e1 with e1
    subst e1
    subst e3
    refine .inr ⟨g, cap, cur.setIfInBounds i u, rfl, hb, ?_, hnc, hcm, by simpa using hsz, ?_⟩
    · show (w.heap.modify g _)[g]? = _
      rw [Array.getElem?_modify]
      simp [hg]
    · rw [Array.toList_setIfInBounds, List.take_set, htk]
theorem set_at {a b : List Value} (m i : Nat) (u : Value) (h : a.length = m) : (a ++ b).set (m + i) u = a ++ b.set i u := by
  subst h
  rw [List.set_append_right _ _ (by omega), Nat.add_sub_cancel_left]
/-- The last one's end written anew. -/
theorem EOwn.high {w : World} {B g n cap m : Nat} {pre : List Sp.S} {t x : Sp.S} (h : EOwn ES w B (.slice (some ⟨g, 0, .none⟩) n cap) (pre ++ [t])) (hm : pre.length = m) :
    EOwn ES ((((((w.setCell ⟨g, m * 11 + 4, .none⟩ (.int .i64 (pt x).a')).setCell ⟨g, m * 11 + 5, .none⟩ (.int .i64 (pt x).b')).setCell ⟨g, m * 11 + 6, .none⟩ (.int .i64 (pt x).c')).setCell ⟨g, m * 11 + 7, .none⟩ (.string (pt x).p')).setCell ⟨g, m * 11 + 9, .none⟩ (.bool (pt x).y)).setCell ⟨g, m * 11 + 10, .none⟩ (.bool (pt x).z)) B (.slice (some ⟨g, 0, .none⟩) n cap) (pre ++ [(t.1, x.2)]) := by
  have hn : (pre ++ [t]).length = n := by
    rcases h.2 with ⟨e, _⟩ | ⟨_, _, _, e, _⟩
    · exact nomatch e
    · injection e with _ e2 _; exact e2.symm
  subst hn
  have hl : (ES.encs pre).length = m * 11 := by rw [ES.encs_len, hm]; rfl
  have h6 := own_set (own_set (own_set (own_set (own_set (own_set h (m * 11 + 4) (.int .i64 (pt x).a')) (m * 11 + 5) (.int .i64 (pt x).b')) (m * 11 + 6) (.int .i64 (pt x).c')) (m * 11 + 7) (.string (pt x).p')) (m * 11 + 9) (.bool (pt x).y)) (m * 11 + 10) (.bool (pt x).z)
  have e0 : ES.encs (pre ++ [t]) = ES.encs pre ++ encS t := by
    rw [ES.encs_app]
    show ES.encs pre ++ (ES.enc t ++ []) = _
    rw [List.append_nil]; rfl
  have e1 : ES.encs (pre ++ [(t.1, x.2)]) = ES.encs pre ++ encS (t.1, x.2) := by
    rw [ES.encs_app]
    show ES.encs pre ++ (ES.enc (t.1, x.2) ++ []) = _
    rw [List.append_nil]; rfl
  unfold EOwn
  rw [e1]
  have hlen : (pre ++ [(t.1, x.2)]).length = (pre ++ [t]).length := by simp
  rw [hlen]
  rw [e0, set_at _ 4 _ hl, set_at _ 5 _ hl, set_at _ 6 _ hl, set_at _ 7 _ hl, set_at _ 9 _ hl, set_at _ 10 _ hl] at h6
  exact h6
theorem grown_high {w : World} {g m : Nat} {y0 y1 y2 y3 y4 y5 : Value} : w.grownBy ((((((w.setCell ⟨g, m * 11 + 4, .none⟩ y0).setCell ⟨g, m * 11 + 5, .none⟩ y1).setCell ⟨g, m * 11 + 6, .none⟩ y2).setCell ⟨g, m * 11 + 7, .none⟩ y3).setCell ⟨g, m * 11 + 9, .none⟩ y4).setCell ⟨g, m * 11 + 10, .none⟩ y5) (some g) :=
  grownBy_trans (grownBy_trans (grownBy_trans (grownBy_trans (grownBy_trans (grownBy_setCell _ _ _ _) (grownBy_setCell _ _ _ _) (.inl rfl)) (grownBy_setCell _ _ _ _) (.inl rfl)) (grownBy_setCell _ _ _ _) (.inl rfl)) (grownBy_setCell _ _ _ _) (.inl rfl)) (grownBy_setCell _ _ _ _) (.inl rfl)

/-- What the reference's questions ask. -/
theorem empty_is (q : Pt) : (!decide (Sp.cmpC (pS q).1 (pS q).2 < 0)) = (!q.z && (decide (cmpV q.hv q.lv < 0) || (cmpV q.hv q.lv == 0 && (q.x || !q.y)))) := by
  have ha := ord_ver.anti q.hv q.lv
  have hb := ord_ver.bd q.hv q.lv
  unfold pS
  cases q.z with
  | true => rfl
  | false =>
    show (!decide (Vr.seq (cmpV q.lv q.hv) (Sp.cmpB q.x q.y) < 0)) = _
    rw [ha]
    generalize cmpV q.hv q.lv = k at *
    have : k = -1 ∨ k = 0 ∨ k = 1 := by omega
    rcases this with rfl | rfl | rfl <;> cases q.x <;> cases q.y <;> decide
theorem first_is (q r : Pt) : decide (Sp.cmpC (pS q).1 (pS r).1 < 0) = (decide (cmpV q.lv r.lv < 0) || (cmpV q.lv r.lv == 0 && (!q.x && r.x))) := by
  have hb := ord_ver.bd q.lv r.lv
  show decide (Vr.seq (cmpV q.lv r.lv) (Sp.cmpB q.x r.x) < 0) = _
  generalize cmpV q.lv r.lv = k at *
  have : k = -1 ∨ k = 0 ∨ k = 1 := by omega
  rcases this with rfl | rfl | rfl <;> cases q.x <;> cases r.x <;> decide
theorem apart_is (q r : Pt) : decide (Sp.cmpC (pS q).2 (pS r).1 < 0) = (!q.z && (decide (cmpV q.hv r.lv < 0) || (cmpV q.hv r.lv == 0 && (!q.y && r.x)))) := by
  have hb := ord_ver.bd q.hv r.lv
  unfold pS
  cases q.z with
  | true => rfl
  | false =>
    show decide (Vr.seq (cmpV q.hv r.lv) (Sp.cmpB q.y r.x) < 0) = _
    generalize cmpV q.hv r.lv = k at *
    have : k = -1 ∨ k = 0 ∨ k = 1 := by omega
    rcases this with rfl | rfl | rfl <;> cases q.y <;> cases r.x <;> decide
theorem longer_is (q r : Pt) : decide (Sp.cmpC (pS r).2 (pS q).2 < 0) = (if q.z || r.z then q.z && !r.z else decide (0 < cmpV q.hv r.hv) || (cmpV q.hv r.hv == 0 && (q.y && !r.y))) := by
  have ha := ord_ver.anti q.hv r.hv
  have hb := ord_ver.bd q.hv r.hv
  unfold pS
  cases q.z with
  | true => cases r.z <;> rfl
  | false =>
    cases r.z with
    | true => rfl
    | false =>
      show decide (Vr.seq (cmpV r.hv q.hv) (Sp.cmpB r.y q.y) < 0) = _
      rw [ha]
      generalize cmpV q.hv r.hv = k at *
      have : k = -1 ∨ k = 0 ∨ k = 1 := by omega
      rcases this with rfl | rfl | rfl <;> cases q.y <;> cases r.y <;> decide
end Go.Proofs.YtohnlhfgajipgaaGreatDoor

namespace Go.Proofs.YtohnlhfgajipgaaGreatDoor
set_option linter.unusedSimpArgs false
set_option linter.unusedVariables false
open Go.RowKit Go.Vr Go.Sort Go.Tx Go.Lib
attribute [local go_sem] setCellDrewN allocDrewN

theorem ok_1000 {v : V} (h : v.ok = true) : v.p.size ≤ 1000 := Nat.le_trans (ok_size h) (by omega)
theorem ret_b {a b : Bool} (h : a = b) : Ending.returned (.bool a) = .returned (.bool b) := by rw [h]

set_option maxHeartbeats 4000000 in
theorem rempty_any (q : Pt) (h : okPt q) (w : World) :
    Calls Tryz.prog 64 #[q.val] w fun e w' => e = .returned (.bool (!decide (Sp.cmpC (pS q).1 (pS q).2 < 0))) ∧ RowKit.Below w.heap.size w w' := by
  have CC : Hid (∀ W, Calls Tryz.prog 26 #[ver q.a' q.b' q.c' q.p', ver q.a q.b q.c q.p] W fun e w' => e = .returned (.int .i64 (cmpV q.hv q.lv)) ∧ RowKit.Below W.heap.size W w') := fun W => rcmp_any q.hv q.lv W (ok_1000 h.2) (ok_1000 h.1)
  have HX := hide (empty_is q)
  have hb := ord_ver.bd q.hv q.lv
  generalize cmpV q.hv q.lv = k at *
  generalize (!decide (Sp.cmpC (pS q).1 (pS q).2 < 0)) = res at *
  clear h
  obtain ⟨a, b, c, p, a', b', c', p', x, y, z⟩ := q
  have h3 : k = -1 ∨ k = 0 ∨ k = 1 := by omega
  clear hb
  rcases h3 with rfl | rfl | rfl <;> cases x <;> cases y <;> cases z
  all_goals
    go_enter Tryz.func64, Tryz.ntmps64
    go_wp2_with fail
    refine (CC.out _).mono ?_
    rintro e w1 ⟨rfl, b1⟩
    obtain ⟨c1, f1, l1, hB⟩ := keep w.heap.size rfl b1
    clear b1 CC
    go_wp2_with fail
    go_ret
    exact ⟨ret_b (by rw [HX.out]; rfl), (by repeat (first | with_reducible assumption | with_reducible exact Below.refl _ _ | with_reducible refine Below.setCell ?_ (by first | exact Nat.le_refl _ | (simp; done) | (simp; omega)) _ | with_reducible refine bal ?_ _ | with_reducible refine Below.alloc ?_ (by first | exact Nat.le_refl _ | (simp; done) | (simp; omega)) _ | with_reducible refine Below.drew ?_))⟩
set_option maxHeartbeats 4000000 in
theorem rfirst_any (q r : Pt) (h : okPt q) (k : okPt r) (w : World) :
    Calls Tryz.prog 65 #[q.val, r.val] w fun e w' => e = .returned (.bool (decide (Sp.cmpC (pS q).1 (pS r).1 < 0))) ∧ RowKit.Below w.heap.size w w' := by
  have CC : Hid (∀ W, Calls Tryz.prog 26 #[ver q.a q.b q.c q.p, ver r.a r.b r.c r.p] W fun e w' => e = .returned (.int .i64 (cmpV q.lv r.lv)) ∧ RowKit.Below W.heap.size W w') := fun W => rcmp_any q.lv r.lv W (ok_1000 h.1) (ok_1000 k.1)
  have HX := hide (first_is q r)
  have hb := ord_ver.bd q.lv r.lv
  generalize cmpV q.lv r.lv = kc at *
  generalize decide (Sp.cmpC (pS q).1 (pS r).1 < 0) = res at *
  clear h k
  obtain ⟨a, b, c, p, a', b', c', p', x, y, z⟩ := q
  obtain ⟨a2, b2, c2, p2, a2', b2', c2', p2', x2, y2, z2⟩ := r
  have h3 : kc = -1 ∨ kc = 0 ∨ kc = 1 := by omega
  clear hb
  rcases h3 with rfl | rfl | rfl <;> cases x <;> cases x2
  all_goals
    go_enter Tryz.func65, Tryz.ntmps65
    go_wp2_with fail
    refine (CC.out _).mono ?_
    rintro e w1 ⟨rfl, b1⟩
    obtain ⟨c1, c2, f1, f2, lt, hB⟩ := keep2 b1
    clear b1 CC
    go_wp2_with fail
    go_ret
    exact ⟨ret_b (by rw [HX.out]; rfl), (by repeat (first | with_reducible assumption | with_reducible exact Below.refl _ _ | with_reducible refine Below.setCell ?_ (by first | exact Nat.le_refl _ | (simp; done) | (simp; omega)) _ | with_reducible refine bal ?_ _ | with_reducible refine Below.alloc ?_ (by first | exact Nat.le_refl _ | (simp; done) | (simp; omega)) _ | with_reducible refine Below.drew ?_))⟩
set_option maxHeartbeats 4000000 in
theorem rapart_any (q r : Pt) (h : okPt q) (k : okPt r) (w : World) :
    Calls Tryz.prog 66 #[q.val, r.val] w fun e w' => e = .returned (.bool (decide (Sp.cmpC (pS q).2 (pS r).1 < 0))) ∧ RowKit.Below w.heap.size w w' := by
  have CC : Hid (∀ W, Calls Tryz.prog 26 #[ver q.a' q.b' q.c' q.p', ver r.a r.b r.c r.p] W fun e w' => e = .returned (.int .i64 (cmpV q.hv r.lv)) ∧ RowKit.Below W.heap.size W w') := fun W => rcmp_any q.hv r.lv W (ok_1000 h.2) (ok_1000 k.1)
  have HX := hide (apart_is q r)
  have hb := ord_ver.bd q.hv r.lv
  generalize cmpV q.hv r.lv = kc at *
  generalize decide (Sp.cmpC (pS q).2 (pS r).1 < 0) = res at *
  clear h k
  obtain ⟨a, b, c, p, a', b', c', p', x, y, z⟩ := q
  obtain ⟨a2, b2, c2, p2, a2', b2', c2', p2', x2, y2, z2⟩ := r
  cases z with
  | true =>
    go_enter Tryz.func66, Tryz.ntmps66
    go_wp2_with fail
    go_ret
    exact ⟨ret_b (by rw [HX.out]; rfl), (by repeat (first | with_reducible assumption | with_reducible exact Below.refl _ _ | with_reducible refine Below.setCell ?_ (by first | exact Nat.le_refl _ | (simp; done) | (simp; omega)) _ | with_reducible refine bal ?_ _ | with_reducible refine Below.alloc ?_ (by first | exact Nat.le_refl _ | (simp; done) | (simp; omega)) _ | with_reducible refine Below.drew ?_))⟩
  | false =>
    have h3 : kc = -1 ∨ kc = 0 ∨ kc = 1 := by omega
    clear hb
    rcases h3 with rfl | rfl | rfl <;> cases y <;> cases x2
    all_goals
      go_enter Tryz.func66, Tryz.ntmps66
      go_wp2_with fail
      refine (CC.out _).mono ?_
      rintro e w1 ⟨rfl, b1⟩
      obtain ⟨c1, c2, f1, f2, lt, hB⟩ := keep2 b1
      clear b1 CC
      go_wp2_with fail
      go_ret
      exact ⟨ret_b (by rw [HX.out]; rfl), (by repeat (first | with_reducible assumption | with_reducible exact Below.refl _ _ | with_reducible refine Below.setCell ?_ (by first | exact Nat.le_refl _ | (simp; done) | (simp; omega)) _ | with_reducible refine bal ?_ _ | with_reducible refine Below.alloc ?_ (by first | exact Nat.le_refl _ | (simp; done) | (simp; omega)) _ | with_reducible refine Below.drew ?_))⟩
set_option maxHeartbeats 4000000 in
theorem rlonger_any (q r : Pt) (h : okPt q) (k : okPt r) (w : World) :
    Calls Tryz.prog 67 #[q.val, r.val] w fun e w' => e = .returned (.bool (decide (Sp.cmpC (pS r).2 (pS q).2 < 0))) ∧ RowKit.Below w.heap.size w w' := by
  have CC : Hid (∀ W, Calls Tryz.prog 26 #[ver q.a' q.b' q.c' q.p', ver r.a' r.b' r.c' r.p'] W fun e w' => e = .returned (.int .i64 (cmpV q.hv r.hv)) ∧ RowKit.Below W.heap.size W w') := fun W => rcmp_any q.hv r.hv W (ok_1000 h.2) (ok_1000 k.2)
  have HX := hide (longer_is q r)
  have hb := ord_ver.bd q.hv r.hv
  generalize cmpV q.hv r.hv = kc at *
  generalize decide (Sp.cmpC (pS r).2 (pS q).2 < 0) = res at *
  clear h k
  obtain ⟨a, b, c, p, a', b', c', p', x, y, z⟩ := q
  obtain ⟨a2, b2, c2, p2, a2', b2', c2', p2', x2, y2, z2⟩ := r
  by_cases hz : (z || z2) = true
  · have hq : (z = true ∧ z2 = false) ∨ (z = false ∧ z2 = true) ∨ (z = true ∧ z2 = true) := by revert hz; cases z <;> cases z2 <;> simp
    clear hz
    rcases hq with ⟨rfl, rfl⟩ | ⟨rfl, rfl⟩ | ⟨rfl, rfl⟩
    all_goals
      go_enter Tryz.func67, Tryz.ntmps67
      go_wp2_with fail
      go_ret
      exact ⟨ret_b (by rw [HX.out]; rfl), (by repeat (first | with_reducible assumption | with_reducible exact Below.refl _ _ | with_reducible refine Below.setCell ?_ (by first | exact Nat.le_refl _ | (simp; done) | (simp; omega)) _ | with_reducible refine bal ?_ _ | with_reducible refine Below.alloc ?_ (by first | exact Nat.le_refl _ | (simp; done) | (simp; omega)) _ | with_reducible refine Below.drew ?_))⟩
  · obtain ⟨rfl, rfl⟩ : z = false ∧ z2 = false := by revert hz; cases z <;> cases z2 <;> simp
    clear hz
    have h3 : kc = -1 ∨ kc = 0 ∨ kc = 1 := by omega
    clear hb
    rcases h3 with rfl | rfl | rfl <;> cases y <;> cases y2
    all_goals
      go_enter Tryz.func67, Tryz.ntmps67
      go_wp2_with fail
      refine (CC.out _).mono ?_
      rintro e w1 ⟨rfl, b1⟩
      obtain ⟨c1, c2, f1, f2, lt, hB⟩ := keep2 b1
      clear b1 CC
      go_wp2_with fail
      go_ret
      exact ⟨ret_b (by rw [HX.out]; rfl), (by repeat (first | with_reducible assumption | with_reducible exact Below.refl _ _ | with_reducible refine Below.setCell ?_ (by first | exact Nat.le_refl _ | (simp; done) | (simp; omega)) _ | with_reducible refine bal ?_ _ | with_reducible refine Below.alloc ?_ (by first | exact Nat.le_refl _ | (simp; done) | (simp; omega)) _ | with_reducible refine Below.drew ?_))⟩
set_option maxHeartbeats 400000 in
theorem rleast_any (w : World) :
    Calls Tryz.prog 27 #[] w fun e w' => e = .returned (ver 0 0 0 ⟨#[48]⟩) ∧ RowKit.Below w.heap.size w w' := by
  go_enter Tryz.func27, Tryz.ntmps27
  go_wp2_with fail
  exact bodyPost_ret (by simp [results, Tryz.results27, go_sem]) rfl ⟨rfl, (by repeat (first | with_reducible assumption | with_reducible exact Below.refl _ _ | with_reducible refine Below.setCell ?_ (by first | exact Nat.le_refl _ | (simp; done) | (simp; omega)) _ | with_reducible refine bal ?_ _ | with_reducible refine Below.alloc ?_ (by first | exact Nat.le_refl _ | (simp; done) | (simp; omega)) _ | with_reducible refine Below.drew ?_))⟩
end Go.Proofs.YtohnlhfgajipgaaGreatDoor
