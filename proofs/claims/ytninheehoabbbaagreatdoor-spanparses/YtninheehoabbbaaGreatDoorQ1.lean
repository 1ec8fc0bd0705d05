/-
  Spans as they come (an open one may have an end written): rows of such; cells written in a row of one's own.
-/
import Derived.Test.YtninheehoabbbaaGreatDoorN5
import Derived.Test.YtninheehoabbbaaGreatDoorM20
import Derived.Test.YtninheehoabbbaaGreatDoorM18
import Derived.Test.YtninheehoabbbaaGreatDoorV9
import Derived.Test.YtninheehoabbbaaGreatDoorU18
namespace Go.Proofs.YtninheehoabbbaaGreatDoor
set_option linter.unusedSimpArgs false
set_option linter.unusedVariables false
open Go.RowKit Go.Vr Go.Sort Go.Tx Go.Lib

/-- Its two versions; what it says. -/
def Pt.lv (q : Pt) : V := ⟨q.a, q.b, q.c, q.p⟩
def Pt.hv (q : Pt) : V := ⟨q.a', q.b', q.c', q.p'⟩
def pS (q : Pt) : Sp.S := (some (q.lv, q.x), if q.z then none else some (q.hv, q.y))
def okPt (q : Pt) : Prop := q.lv.ok = true ∧ q.hv.ok = true
theorem pS_ok {q : Pt} (h : okPt q) : Sp.okS (pS q) := by
  refine ⟨⟨_, rfl⟩, Sp.ok_v h.1 _, ?_⟩
  unfold pS
  simp only
  split
  · exact Sp.ok_end
  · exact Sp.ok_v h.2 _
theorem pS_pt {s : Sp.S} (h : Sp.okS s) : pS (pt s) = s := by
  obtain ⟨s1, s2⟩ := s
  obtain ⟨⟨p, hp⟩, _, _⟩ := h
  simp only at hp
  subst hp
  cases s2 with
  | none => rfl
  | some q => rfl
theorem okPt_pt {s : Sp.S} (h : Sp.okS s) : okPt (pt s) := by
  obtain ⟨⟨p, hp⟩, ok1, ok2⟩ := h
  refine ⟨?_, ?_⟩
  · show (lo s).1.ok = true
    unfold lo; rw [hp]; exact ok1 p hp
  · show (hi s).1.ok = true
    unfold hi
    cases e : s.2 with
    | none => decide +kernel
    | some q => exact ok2 q e
abbrev Pt.row (q : Pt) : List Value := [.int .i64 q.a, .int .i64 q.b, .int .i64 q.c, .string q.p, .int .i64 q.a', .int .i64 q.b', .int .i64 q.c', .string q.p', .bool q.x, .bool q.y, .bool q.z]
def EP : El Pt where
  enc := fun q => q.row
  k := 11
  T := 44
  TS := 28
  z := spv 0 0 0 ⟨#[]⟩ 0 0 0 ⟨#[]⟩ false false false
  bytes := 88
  hk := fun _ => rfl
  one := by
    intro x u hu
    simp only [List.mem_cons, List.not_mem_nil, or_false] at hu
    rcases hu with rfl | rfl | rfl | rfl | rfl | rfl | rfl | rfl | rfl | rfl | rfl <;> rfl
  ht := Tryz.underlying28
  hi := ⟨Tryz.t44, by kernel_rfl, by kernel_rfl, by kernel_rfl, by kernel_rfl⟩
  hzs := by kernel_rfl
  hk0 := by decide
  hby := by decide
theorem encs_pt : ∀ l : List Sp.S, EP.encs (l.map pt) = ES.encs l
  | [] => rfl
  | s :: l => by
    show EP.enc (pt s) ++ EP.encs (l.map pt) = ES.enc s ++ ES.encs l
    rw [encs_pt l]; rfl
theorem ERow.pts {w : World} {a : Option Addr} {n : Nat} {l : List Sp.S} (h : ERow ES w a n l) : ERow EP w a n (l.map pt) :=
  ⟨by rw [List.length_map]; exact h.n, h.nil, fun x e j v hj => h.cell x e j v (by rw [← encs_pt]; exact hj)⟩
theorem EP_at {w : World} {b off len : Nat} {l : List Pt} (h : ERow EP w (some ⟨b, off, none⟩) len l) (j : Nat) (s : Pt) (hj : l[j]? = some s) :
    w.cell? ⟨b, off + j * 11, none⟩ = some (.int .i64 s.a) ∧ w.cell? ⟨b, off + j * 11 + 1, none⟩ = some (.int .i64 s.b) ∧ w.cell? ⟨b, off + j * 11 + 2, none⟩ = some (.int .i64 s.c) ∧ w.cell? ⟨b, off + j * 11 + 3, none⟩ = some (.string s.p) ∧ w.cell? ⟨b, off + j * 11 + 4, none⟩ = some (.int .i64 s.a') ∧ w.cell? ⟨b, off + j * 11 + 5, none⟩ = some (.int .i64 s.b') ∧ w.cell? ⟨b, off + j * 11 + 6, none⟩ = some (.int .i64 s.c') ∧ w.cell? ⟨b, off + j * 11 + 7, none⟩ = some (.string s.p') ∧ w.cell? ⟨b, off + j * 11 + 8, none⟩ = some (.bool s.x) ∧ w.cell? ⟨b, off + j * 11 + 9, none⟩ = some (.bool s.y) ∧ w.cell? ⟨b, off + j * 11 + 10, none⟩ = some (.bool s.z) :=
  ⟨h.at_ j s hj 0 _ rfl, h.at_ j s hj 1 _ rfl, h.at_ j s hj 2 _ rfl, h.at_ j s hj 3 _ rfl, h.at_ j s hj 4 _ rfl, h.at_ j s hj 5 _ rfl, h.at_ j s hj 6 _ rfl, h.at_ j s hj 7 _ rfl, h.at_ j s hj 8 _ rfl, h.at_ j s hj 9 _ rfl, h.at_ j s hj 10 _ rfl⟩

/-- A cell written in a row of one's own. -/
theorem own_set {w : World} {B : Nat} {T : TypeId} {k g n cap : Nat} {xs : List Value} (h : w.ownsRow B T k (.slice (some ⟨g, 0, .none⟩) n cap) n xs) (i : Nat) (u : Value) :
    (w.setCell ⟨g, i, .none⟩ u).ownsRow B T k (.slice (some ⟨g, 0, .none⟩) n cap) n (xs.set i u) := by
  refine ⟨by rw [List.length_set]; exact h.1, ?_⟩
  rcases h.2 with ⟨e, _⟩ | ⟨g', cap', cur, e, hb, hg, hnc, hcm, hsz, htk⟩
  · exact nomatch e
  · injection e with e1 _ e3
    injection e1 with e1
    injection e1 with e1
    subst e1
    subst e3
    refine .inr ⟨g, cap, cur.setIfInBounds i u, rfl, hb, ?_, hnc, hcm, by simpa using hsz, ?_⟩
    · show (w.heap.modify g _)[g]? = _
      rw [Array.getElem?_modify]
      simp [hg]
    · rw [Array.toList_setIfInBounds, List.take_set, htk]
theorem set_at {a b : List Value} (m i : Nat) (u : Value) (h : a.length = m) : (a ++ b).set (m + i) u = a ++ b.set i u := by
  subst h
  rw [List.set_append_right _ _ (by omega), Nat.add_sub_cancel_left]
/-- The last one's end written anew. -/
theorem EOwn.high {w : World} {B g n cap m : Nat} {pre : List Sp.S} {t x : Sp.S} (h : EOwn ES w B (.slice (some ⟨g, 0, .none⟩) n cap) (pre ++ [t])) (hm : pre.length = m) :
    EOwn ES ((((((w.setCell ⟨g, m * 11 + 4, .none⟩ (.int .i64 (pt x).a')).setCell ⟨g, m * 11 + 5, .none⟩ (.int .i64 (pt x).b')).setCell ⟨g, m * 11 + 6, .none⟩ (.int .i64 (pt x).c')).setCell ⟨g, m * 11 + 7, .none⟩ (.string (pt x).p')).setCell ⟨g, m * 11 + 9, .none⟩ (.bool (pt x).y)).setCell ⟨g, m * 11 + 10, .none⟩ (.bool (pt x).z)) B (.slice (some ⟨g, 0, .none⟩) n cap) (pre ++ [(t.1, x.2)]) := by
  have hn : (pre ++ [t]).length = n := by
    rcases h.2 with ⟨e, _⟩ | ⟨_, _, _, e, _⟩
    · exact nomatch e
    · injection e with _ e2 _; exact e2.symm
  subst hn
  have hl : (ES.encs pre).length = m * 11 := by rw [ES.encs_len, hm]; rfl
  have h6 := own_set (own_set (own_set (own_set (own_set (own_set h (m * 11 + 4) (.int .i64 (pt x).a')) (m * 11 + 5) (.int .i64 (pt x).b')) (m * 11 + 6) (.int .i64 (pt x).c')) (m * 11 + 7) (.string (pt x).p')) (m * 11 + 9) (.bool (pt x).y)) (m * 11 + 10) (.bool (pt x).z)
  have e0 : ES.encs (pre ++ [t]) = ES.encs pre ++ encS t := by
    rw [ES.encs_app]
    show ES.encs pre ++ (ES.enc t ++ []) = _
    rw [List.append_nil]; rfl
  have e1 : ES.encs (pre ++ [(t.1, x.2)]) = ES.encs pre ++ encS (t.1, x.2) := by
    rw [ES.encs_app]
    show ES.encs pre ++ (ES.enc (t.1, x.2) ++ []) = _
    rw [List.append_nil]; rfl
  unfold EOwn
  rw [e1]
  have hlen : (pre ++ [(t.1, x.2)]).length = (pre ++ [t]).length := by simp
  rw [hlen]
  rw [e0, set_at _ 4 _ hl, set_at _ 5 _ hl, set_at _ 6 _ hl, set_at _ 7 _ hl, set_at _ 9 _ hl, set_at _ 10 _ hl] at h6
  exact h6
theorem grown_high {w : World} {g m : Nat} {y0 y1 y2 y3 y4 y5 : Value} : w.grownBy ((((((w.setCell ⟨g, m * 11 + 4, .none⟩ y0).setCell ⟨g, m * 11 + 5, .none⟩ y1).setCell ⟨g, m * 11 + 6, .none⟩ y2).setCell ⟨g, m * 11 + 7, .none⟩ y3).setCell ⟨g, m * 11 + 9, .none⟩ y4).setCell ⟨g, m * 11 + 10, .none⟩ y5) (some g) :=
  grownBy_trans (grownBy_trans (grownBy_trans (grownBy_trans (grownBy_trans (grownBy_setCell _ _ _ _) (grownBy_setCell _ _ _ _) (.inl rfl)) (grownBy_setCell _ _ _ _) (.inl rfl)) (grownBy_setCell _ _ _ _) (.inl rfl)) (grownBy_setCell _ _ _ _) (.inl rfl)) (grownBy_setCell _ _ _ _) (.inl rfl)

/-- What the reference's questions ask. -/
theorem empty_is (q : Pt) : (!decide (Sp.cmpC (pS q).1 (pS q).2 < 0)) = (!q.z && (decide (cmpV q.hv q.lv < 0) || (cmpV q.hv q.lv == 0 && (q.x || !q.y)))) := by
  have ha := ord_ver.anti q.hv q.lv
  have hb := ord_ver.bd q.hv q.lv
  unfold pS
  cases q.z with
  | true => rfl
  | false =>
    show (!decide (Vr.seq (cmpV q.lv q.hv) (Sp.cmpB q.x q.y) < 0)) = _
    rw [ha]
    generalize cmpV q.hv q.lv = k at *
    have : k = -1 ∨ k = 0 ∨ k = 1 := by omega
    rcases this with rfl | rfl | rfl <;> cases q.x <;> cases q.y <;> decide
theorem first_is (q r : Pt) : decide (Sp.cmpC (pS q).1 (pS r).1 < 0) = (decide (cmpV q.lv r.lv < 0) || (cmpV q.lv r.lv == 0 && (!q.x && r.x))) := by
  have hb := ord_ver.bd q.lv r.lv
  show decide (Vr.seq (cmpV q.lv r.lv) (Sp.cmpB q.x r.x) < 0) = _
  generalize cmpV q.lv r.lv = k at *
  have : k = -1 ∨ k = 0 ∨ k = 1 := by omega
  rcases this with rfl | rfl | rfl <;> cases q.x <;> cases r.x <;> decide
theorem apart_is (q r : Pt) : decide (Sp.cmpC (pS q).2 (pS r).1 < 0) = (!q.z && (decide (cmpV q.hv r.lv < 0) || (cmpV q.hv r.lv == 0 && (!q.y && r.x)))) := by
  have hb := ord_ver.bd q.hv r.lv
  unfold pS
  cases q.z with
  | true => rfl
  | false =>
    show decide (Vr.seq (cmpV q.hv r.lv) (Sp.cmpB q.y r.x) < 0) = _
    generalize cmpV q.hv r.lv = k at *
    have : k = -1 ∨ k = 0 ∨ k = 1 := by omega
    rcases this with rfl | rfl | rfl <;> cases q.y <;> cases r.x <;> decide
theorem longer_is (q r : Pt) : decide (Sp.cmpC (pS r).2 (pS q).2 < 0) = (if q.z || r.z then q.z && !r.z else decide (0 < cmpV q.hv r.hv) || (cmpV q.hv r.hv == 0 && (q.y && !r.y))) := by
  have ha := ord_ver.anti q.hv r.hv
  have hb := ord_ver.bd q.hv r.hv
  unfold pS
  cases q.z with
  | true => cases r.z <;> rfl
  | false =>
    cases r.z with
    | true => rfl
    | false =>
      show decide (Vr.seq (cmpV r.hv q.hv) (Sp.cmpB r.y q.y) < 0) = _
      rw [ha]
      generalize cmpV q.hv r.hv = k at *
      have : k = -1 ∨ k = 0 ∨ k = 1 := by omega
      rcases this with rfl | rfl | rfl <;> cases q.y <;> cases r.y <;> decide
end Go.Proofs.YtninheehoabbbaaGreatDoor
