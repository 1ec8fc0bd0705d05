/-
  Contract of the reference's Norm.
-/
import Derived.Test.YthihnpjbdjmbhaaGreatDoorG31
import Derived.BigQuiet
import Derived.BigRegion
import Derived.Deep.CutBlock
import Derived.Deep.RegionLaw

namespace Go.Proofs.YthihnpjbdjmbhaaGreatDoor
set_option linter.unusedSimpArgs false
set_option linter.unusedVariables false
open Go.RowKit Go.Vr Go.Sort Go.Tx Go.Lib
attribute [local go_sem] setCellDrewN allocDrewN

theorem pt_pS (q : Pt) : pt (pS q) = if q.z then ⟨q.a, q.b, q.c, q.p, 0, 0, 0, ⟨#[]⟩, q.x, false, true⟩ else q := by
  obtain ⟨a, b, c, p, a', b', c', p', x, y, z⟩ := q
  cases z <;> rfl
theorem ERow.back {α : Type} {E : El α} {w : World} {g off n cap : Nat} {l : List α} (h : ERow E w (some ⟨g, off, .none⟩) n l) (j : Nat) (hj : j ≤ n) (hc : n ≤ cap) : ERow E w (if cap = j then some ⟨g, off, .none⟩ else some ⟨g, off + j * E.k, .none⟩) (n - j) (l.drop j) := by
  have hn := h.n
  by_cases e : cap = j
  · rw [if_pos e]
    have hd : l.drop j = [] := List.drop_eq_nil_of_le (by omega)
    rw [hd]
    exact ⟨by simp; omega, (fun e => nomatch e), fun x _ i v hi => by simp [El.encs] at hi⟩
  · rw [if_neg e]
    refine ⟨by rw [List.length_drop, hn], (fun e => nomatch e), fun x e i v hi => ?_⟩
    obtain rfl : ⟨g, off + j * E.k, .none⟩ = x := by simpa using e
    have e2 : E.encs l = E.encs (l.take j) ++ E.encs (l.drop j) := by rw [← E.encs_app, List.take_append_drop]
    have hl : (E.encs (l.take j)).length = j * E.k := by rw [E.encs_len, List.length_take, hn, Nat.min_eq_left hj]
    have hc := h.cell _ rfl (j * E.k + i) v (by rw [e2, List.getElem?_append_right (by omega), hl, Nat.add_sub_cancel_left]; exact hi)
    rw [addr_add] at hc ⊢
    rw [Nat.add_assoc]
    exact hc
theorem EOwn.row {α : Type} {E : El α} {w : World} {B : Nat} {a : Option Addr} {n c : Nat} {l : List α} (h : EOwn E w B (.slice a n c) l) : ERow E w a n l ∧ n ≤ c ∧ c ≤ maxLen := by
  obtain ⟨ad, cap, e, h1, h3, h2⟩ := h.any
  injection e with e1 e2 e3
  subst e1
  subst e2
  subst e3
  exact ⟨h2, h1, h3⟩
theorem ERow.kept {α : Type} {E : El α} {w w' : World} {g n : Nat} {l : List α} {r : Option Nat} (h : ERow E w (some ⟨g, 0, .none⟩) n l) (hg : w.grownBy w' r) (hne : some g ≠ r) : ERow E w' (some ⟨g, 0, .none⟩) n l :=
  ⟨h.n, h.nil, fun x e j v hj => by
    have hc := h.cell x e j v hj
    obtain rfl : ⟨g, 0, .none⟩ = x := by simpa using e
    exact hg.cell hc (by rw [addr_add]; exact hne)⟩
theorem ERow.newAt (w : World) (x : Sp.S) (T : TypeId) (n : Nat) (h : n = w.heap.size) : ERow ES (w.alloc (.cells (encS x).toArray T)) (some ⟨n, 0, .none⟩) 1 [x] := by subst h; exact ERow.new ES w x T
theorem ERow.oldAt {w : World} {n k : Nat} {l : List Sp.S} (o : Obj) (h : ERow ES w (some ⟨n, 0, .none⟩) k l) : ERow ES (w.alloc o) (some ⟨n, 0, .none⟩) k l := h.later (by repeat (first | with_reducible assumption | with_reducible exact Below.refl _ _ | with_reducible refine Below.setCell ?_ (by first | exact Nat.le_refl _ | (simp; done) | (simp; omega)) _ | with_reducible refine bal ?_ _ | with_reducible refine Below.alloc ?_ (by first | exact Nat.le_refl _ | (simp; done) | (simp; omega)) _ | with_reducible refine Below.drew ?_))
theorem ERow.drewAt {w : World} {n k : Nat} {l : List Sp.S} (h : ERow ES w (some ⟨n, 0, .none⟩) k l) : ERow ES w.drew (some ⟨n, 0, .none⟩) k l := h.later (by repeat (first | with_reducible assumption | with_reducible exact Below.refl _ _ | with_reducible refine Below.setCell ?_ (by first | exact Nat.le_refl _ | (simp; done) | (simp; omega)) _ | with_reducible refine bal ?_ _ | with_reducible refine Below.alloc ?_ (by first | exact Nat.le_refl _ | (simp; done) | (simp; omega)) _ | with_reducible refine Below.drew ?_))
theorem bel3 (w : World) (N : Nat) (o : Obj) : RowKit.Below w.heap.size w ((w.alloc o).drewN N) := RowKit.Below.trans ((by repeat (first | with_reducible assumption | with_reducible exact Below.refl _ _ | with_reducible refine Below.setCell ?_ (by first | exact Nat.le_refl _ | (simp; done) | (simp; omega)) _ | with_reducible refine bal ?_ _ | with_reducible refine Below.alloc ?_ (by first | exact Nat.le_refl _ | (simp; done) | (simp; omega)) _ | with_reducible refine Below.drew ?_))) ((belDrewN _ N).mono (by simp))
theorem ERow.drewNAt {w : World} {n k : Nat} {l : List Sp.S} (N : Nat) (h : ERow ES w (some ⟨n, 0, .none⟩) k l) : ERow ES (w.drewN N) (some ⟨n, 0, .none⟩) k l := h.later (belDrewN _ _)
theorem EOwn.frz {α : Type} {E : El α} {w : World} {B g n c : Nat} {l : List α} (h : EOwn E w B (.slice (some ⟨g, 0, .none⟩) n c) l) : ∀ i, w.frozen? ⟨g, i, .none⟩ = false := by
  intro i
  rcases h.2 with ⟨e, _⟩ | ⟨g', cap', cur, e, _, hg, _⟩
  · exact nomatch e
  · injection e with e1 _ _
    injection e1 with e1
    injection e1 with e1
    subst e1
    unfold World.frozen?
    simp only
    rw [hg]
    simp
theorem grown_set1 {w w' : World} {N o : Nat} {v : Value} (h : w.grownBy w' (some N)) : w.grownBy (w'.setCell ⟨N, o, none⟩ v) (some N) := grownBy_trans h (grownBy_setCell _ _ _ _) (.inl rfl)
theorem ERow.keptAt {α : Type} {E : El α} {w w' : World} {g off n : Nat} {l : List α} {r : Option Nat} (h : ERow E w (some ⟨g, off, .none⟩) n l) (hg : w.grownBy w' r) (hne : some g ≠ r) : ERow E w' (some ⟨g, off, .none⟩) n l :=
  ⟨h.n, h.nil, fun x e j v hj => by
    have hc := h.cell x e j v hj
    obtain rfl : ⟨g, off, .none⟩ = x := by simpa using e
    exact hg.cell hc (by rw [addr_add]; exact hne)⟩
theorem grown_drew {w w' : World} {r : Option Nat} (h : w.grownBy w' r) : w.grownBy w'.drew r := grownBy_trans h (grownBy_below _ (show RowKit.Below w'.heap.size w' w'.drew from (by repeat (first | with_reducible assumption | with_reducible exact Below.refl _ _ | with_reducible refine Below.setCell ?_ (by first | exact Nat.le_refl _ | (simp; done) | (simp; omega)) _ | with_reducible refine bal ?_ _ | with_reducible refine Below.alloc ?_ (by first | exact Nat.le_refl _ | (simp; done) | (simp; omega)) _ | with_reducible refine Below.drew ?_)))) (.inl rfl)
theorem meas {m k : Nat} {z : Int} (e : z = ((k + 1 : Nat) : Int)) (h : k < m) : m - (RowKit.intOf (Value.int .i64 z)).toNat < m - (RowKit.intOf (Value.int .i64 (k : Int))).toNat := by
  subst e
  show m - (((k + 1 : Nat) : Int)).toNat < m - ((k : Int)).toNat
  rw [Int.toNat_natCast, Int.toNat_natCast]
  omega
theorem own_bel {α : Type} {E : El α} {B : Nat} {a w w' : World} {v : Value} {l : List α} (h : RowKit.Below B a w) (ho : EOwn E w B v l) (hg : w.grownBy w' v.ownBlock) (hB : B ≤ w.heap.size) : RowKit.Below B a w' := h.grown hg hB (fun k e => (ho.low k e).1)
theorem ES_at0 {w : World} {b len : Nat} {l : List Sp.S} (h : ERow ES w (some ⟨b, 0, none⟩) len l) (j : Nat) (s : Sp.S) (hj : l[j]? = some s) :
    w.cell? ⟨b, j * 11, none⟩ = some (.int .i64 (pt s).a) ∧ w.cell? ⟨b, j * 11 + 1, none⟩ = some (.int .i64 (pt s).b) ∧ w.cell? ⟨b, j * 11 + 2, none⟩ = some (.int .i64 (pt s).c) ∧ w.cell? ⟨b, j * 11 + 3, none⟩ = some (.string (pt s).p) ∧ w.cell? ⟨b, j * 11 + 4, none⟩ = some (.int .i64 (pt s).a') ∧ w.cell? ⟨b, j * 11 + 5, none⟩ = some (.int .i64 (pt s).b') ∧ w.cell? ⟨b, j * 11 + 6, none⟩ = some (.int .i64 (pt s).c') ∧ w.cell? ⟨b, j * 11 + 7, none⟩ = some (.string (pt s).p') ∧ w.cell? ⟨b, j * 11 + 8, none⟩ = some (.bool (pt s).x) ∧ w.cell? ⟨b, j * 11 + 9, none⟩ = some (.bool (pt s).y) ∧ w.cell? ⟨b, j * 11 + 10, none⟩ = some (.bool (pt s).z) := by
  have h2 := ES_at h j s hj
  rw [Nat.zero_add] at h2
  exact h2
theorem bel1 (w : World) (N : Nat) (o : Obj) : RowKit.Below w.heap.size w ((w.drewN N).alloc o) := (belDrewN w N).alloc (Nat.le_refl _) o
theorem bel2 (w : World) (N : Nat) (o p : Obj) : RowKit.Below w.heap.size w (((w.drewN N).alloc o).alloc p) := (bel1 w N o).alloc (by simp) p

set_option maxHeartbeats 16000000 in
set_option maxRecDepth 100000 in
theorem rnorm_any (a : Option Addr) (n cap : Nat) (ps : List Pt) (w : World) (hr : ERow EP w a n ps) (hn : n ≤ 9000) (ho : ∀ q ∈ ps, okPt q) :
    Calls Tryz.prog 48 #[.slice a n cap] w fun e w' => ∃ v', e = .returned v' ∧ EOwn ES w' w.heap.size v' (Sp.nrm (ps.map pS)) ∧ RowKit.Below w.heap.size w w' := by
  have HR := hide hr
  have HO := hide ho
  have hl := hr.n
  clear hr ho
  go_enter Tryz.func48, Tryz.ntmps48
  go_wp2_with fail
  go_loopw [3, 5] (fun s i wr => ∃ (k : Nat) (d : List Sp.S), k ≤ n ∧ i = .int .i64 k ∧ EOwn ES wr w.heap.size s d ∧ RowKit.Below w.heap.size w wr ∧ d.length ≤ k ∧ Hid (Sp.Rise Sp.cmpC d ∧ ∀ t, t ∈ d ↔ t ∈ (ps.take k).map pS ∧ Sp.cmpC t.1 t.2 < 0) ∧ Hid (Sp.okL d)) (fun _ i _ => n - (RowKit.intOf i).toNat)
  case atStart => exact ⟨0, [], by omega, rfl, EOwn.nil _ _, RowKit.Below.refl _ _, by simp, ⟨trivial, by simp⟩, fun _ h => nomatch h⟩
  case round =>
    obtain ⟨k, d, hk, rfl, o1, hB, hdl, HD, HOK⟩ := hrel
    have HO1 := hide o1
    have HB := hide hB
    have HDL := hide hdl
    clear o1 hB hdl
    by_cases hlt : k < n
    · obtain ⟨b, off, rfl⟩ := HR.out.spot (by omega)
      have hlk : k < ps.length := by rw [HR.out.n]; exact hlt
      have hj : ps[k]? = some ps[k] := List.getElem?_eq_getElem hlk
      have hok := HO.out _ (List.getElem_mem hlk)
      obtain ⟨d0, d1, d2, d3, d4, d5, d6, d7, d8, d9, d10⟩ := EP_at (HR.out.later HB.out) k ps[k] hj
      have HT : Hid ((ps.take (k + 1)).map pS = (ps.take k).map pS ++ [pS ps[k]]) := by show _ = _; rw [List.take_succ_eq_append_getElem hlk, List.map_append]; rfl
      generalize ps[k] = q at *
      have CE : Hid (∀ W, Calls Tryz.prog 72 #[q.val] W fun e w' => e = .returned (.bool (!decide (Sp.cmpC (pS q).1 (pS q).2 < 0))) ∧ RowKit.Below W.heap.size W w') := fun W => rempty_any q hok W
      have i1 : (0 : Int) ≤ (k : Int) := by omega
      have i2 : (k : Int) < (n : Int) := by omega
      by_cases hne : Sp.cmpC (pS q).1 (pS q).2 < 0
      · have hd : (!decide (Sp.cmpC (pS q).1 (pS q).2 < 0)) = false := by rw [decide_eq_true hne]; rfl
        rw [hd] at CE
        have HNE := hide hne
        have HOQ := hide hok
        clear hne hd hok hj
        obtain ⟨ad, cp, rfl, hdc, hcm, hrow⟩ := HO1.out.any
        have HNO : Hid ((Value.slice ad d.length cp).ownBlock ≠ some wr.heap.size) := fun e => by have := (HO1.out.low _ e).2; omega
        clear hrow
        go_wp2_with fail
        refine (CE.out _).mono ?_
        rintro e w1 ⟨rfl, b1⟩
        have X1 : Box w1 wr.heap.size q.cells := (Box.new wr q.cells 44).later b1
        have hb1 : RowKit.Below wr.heap.size wr w1 := RowKit.Below.trans ((by repeat (first | with_reducible assumption | with_reducible exact Below.refl _ _ | with_reducible refine Below.setCell ?_ (by first | exact Nat.le_refl _ | (simp; done) | (simp; omega)) _ | with_reducible refine bal ?_ _ | with_reducible refine Below.alloc ?_ (by first | exact Nat.le_refl _ | (simp; done) | (simp; omega)) _ | with_reducible refine Below.drew ?_))) (b1.mono (by simp))
        have O1 := hide (HO1.out.later hb1)
        have HB1 := hide (step HB.out hb1)
        have hN : Hid (w.heap.size ≤ wr.heap.size) := HB.out.size
        clear b1 CE d0 d1 d2 d3 d4 d5 d6 d7 d8 d9 d10 hb1 HO1 HB
        generalize wr.heap.size = N at *
        generalize hm : d.length = m at *
        have HDM := hide hm
        clear hm
        have HXX := hide X1
        obtain ⟨lX, cX, fX⟩ := X1
        have HT0 := hide (pt_pS q)
        go_upto_if 23 with fail
        go_cut [6] (fun p wc => p = .pointer (some ⟨N, 0, none⟩) ∧ Box wc N (pt (pS q)).cells ∧ w1.grownBy wc (some N))
        case first =>
          cases hz : q.z with
          | true =>
            go_wp2_with fail
            go_meet
            case rel =>
              refine ⟨rfl, ?_, ?_⟩
              · rw [HT0.out, hz]
                have h := HXX.out
                have e : q.cells = #[.int .i64 q.a, .int .i64 q.b, .int .i64 q.c, .string q.p, .int .i64 q.a', .int .i64 q.b', .int .i64 q.c', .string q.p', .bool q.x, .bool q.y, .bool true] := by rw [← hz]
                rw [e] at h
                exact ((((h.set 4 (.int .i64 0) (by simp)).set 5 (.int .i64 0) (by simp)).set 6 (.int .i64 0) (by simp)).set 7 (.string ⟨#[]⟩) (by simp)).set 9 (.bool false) (by simp)
              · exact grownBy_trans (grownBy_trans (grownBy_trans (grownBy_trans (grownBy_setCell _ _ _ _) (grownBy_setCell _ _ _ _) (.inl rfl)) (grownBy_setCell _ _ _ _) (.inl rfl)) (grownBy_setCell _ _ _ _) (.inl rfl)) (grownBy_setCell _ _ _ _) (.inl rfl)
          | false =>
            go_wp2_with fail
            go_meet
            case rel =>
              refine ⟨rfl, ?_, grownBy_below _ (RowKit.Below.refl _ _)⟩
              rw [HT0.out, hz]
              exact HXX.out
        case rest =>
          obtain ⟨W1, hW1⟩ : ∃ W, W = wc := ⟨_, rfl⟩
          subst hW1
          obtain ⟨rfl, X2, g2⟩ := hcut
          have hok2 := pS_ok HOQ.out
          have HOT := hide hok2
          have O2 := hide (O1.out.kept g2 (.inr HNO.out))
          have HB2 : Hid (RowKit.Below w.heap.size w W1) := HB1.out.grown g2 HB1.out.size (fun j e => by have := hN.out; have := Option.some.inj e; omega)
          clear O1 HB1 g2 HXX cX fX lX hok2 HT0
          generalize pS q = t at *
          go_upto_block 2 with fail
          go_cut [7] (fun v wd => ∃ j : Nat, j ≤ m ∧ v = .int .i64 j ∧ Hid (Sp.Rise Sp.cmpC (d.take j ++ [t] ++ d.drop j)) ∧ RowKit.Below W1.heap.size W1 wd)
          case first =>
            go_wp2_with fail
            go_loopw [7] (fun v wq => ∃ j : Nat, j ≤ m ∧ v = .int .i64 j ∧ Hid (∀ u ∈ d.drop j, Sp.cmpC t.1 u.1 < 0) ∧ RowKit.Below W1.heap.size W1 wq) (fun v _ => (RowKit.intOf v).toNat)
            case atStart => exact ⟨m, Nat.le_refl _, rfl, (show ∀ u ∈ d.drop m, Sp.cmpC t.1 u.1 < 0 by rw [List.drop_of_length_le (by rw [HDM.out]; exact Nat.le_refl _)]; exact fun _ h => nomatch h), RowKit.Below.refl _ _⟩
            case round =>
              obtain ⟨j, hjm, rfl, HJ, hBq⟩ := hrel
              cases j with
              | zero =>
                have HRP : Hid (Sp.Rise Sp.cmpC (d.take 0 ++ [t] ++ d.drop 0)) := Sp.rise_put HD.out.1 t 0 HJ.out (.inl rfl)
                go_wp2_with fail
                go_quiet (fail)
                go_wp2_with fail
                go_meet
                case rel => exact ⟨0, by omega, rfl, HRP, step hBq (belDrewN _ _)⟩
              | succ j =>
                have hjl : j < d.length := by rw [HDM.out]; omega
                have hju : d[j]? = some d[j] := List.getElem?_eq_getElem hjl
                have huo := HOK.out _ (List.getElem_mem hjl)
                have hrow := O2.out.row.1
                obtain ⟨g, off, rfl⟩ := hrow.spot (by omega)
                have HDR : Hid (d.drop j = d[j] :: d.drop (j + 1)) := List.drop_eq_getElem_cons hjl
                have KD := fun dd os => ES_at (hrow.later (step hBq (below_regrown wr dd os))) j d[j] hju
                have k0 := fun dd os => (KD dd os).1
                have k1 := fun dd os => (KD dd os).2.1
                have k2 := fun dd os => (KD dd os).2.2.1
                have k3 := fun dd os => (KD dd os).2.2.2.1
                have k4 := fun dd os => (KD dd os).2.2.2.2.1
                have k5 := fun dd os => (KD dd os).2.2.2.2.2.1
                have k6 := fun dd os => (KD dd os).2.2.2.2.2.2.1
                have k7 := fun dd os => (KD dd os).2.2.2.2.2.2.2.1
                have k8 := fun dd os => (KD dd os).2.2.2.2.2.2.2.2.1
                have k9 := fun dd os => (KD dd os).2.2.2.2.2.2.2.2.2.1
                have k10 := fun dd os => (KD dd os).2.2.2.2.2.2.2.2.2.2
                have KX : ∀ dd os i, (grow (redrawn wr dd) os).cell? ⟨N, i, none⟩ = ((pt t).cells)[i]? := fun dd os => ((X2.later hBq).regrown dd os).c
                have CF : Hid (∀ W, Calls Tryz.prog 73 #[(pt t).val, (pt d[j]).val] W fun e w' => e = .returned (.bool (decide (Sp.cmpC t.1 d[j].1 < 0))) ∧ RowKit.Below W.heap.size W w') := fun W => by
                  have := rfirst_any (pt t) (pt d[j]) (okPt_pt HOT.out) (okPt_pt huo) W
                  rw [pS_pt HOT.out, pS_pt huo] at this
                  exact this
                have HU : Hid (d[j]? = some d[j]) := hju
                have HBq := hide hBq
                have hB0 := RowKit.Below.refl wr.heap.size wr
                have w0 : (0 : Int) < ((j + 1 : Nat) : Int) := by omega
                have w1 : IntKind.i64.wrap (((j + 1 : Nat) : Int) - 1) = (j : Int) := by have := HDL.out; rw [IntKind.wrap_i64]; omega
                have w2 : (0 : Int) ≤ (j : Int) := by omega
                have w3 : (j : Int) < (m : Int) := by omega
                generalize hK : ((j + 1 : Nat) : Int) = K at *
                have HK := hide hK
                clear hK
                have HJM : Hid (j + 1 ≤ m) := hjm
                clear KD hrow hju huo hBq hjm hdc hcm
                generalize d[j] = u at *
                clear hjl
                generalize pt u = up at *
                generalize pt t = tp at *
                cases hc : decide (Sp.cmpC t.1 u.1 < 0) with
                | true =>
                  rw [hc] at CF
                  have HC := hide (of_decide_eq_true hc)
                  clear hc
                  go_wp2_with fail
                  refine wp_region_quiet_below mixed (by kernel_rfl) ?_
                  quiet_step (fail)
                  quiet_step (fail)
                  quiet_step (fail)
                  quiet_step (fail)
                  quiet_step (fail)
                  quiet_step (fail)
                  quiet_step (fail)
                  quiet_step (fail)
                  quiet_step (fail)
                  quiet_step (exact Calls.regrown_of (CF.out _))
                  quiet_step (fail)
                  refine wpQuiet_nil ?_
                  intro w2 hw2
                  have hHeld := regrown_below hw2
                  clear hw2 KX k0 k1 k2 k3 k4 k5 k6 k7 k8 k9 k10
                  go_wp2_with fail
                  go_roundw
                  case rel => exact ⟨j, by have := HJM.out; omega, by first | rfl | (simp [w1]; done), (show ∀ x ∈ d.drop j, Sp.cmpC t.1 x.1 < 0 by
                    rw [HDR.out]
                    intro x hx
                    rcases List.mem_cons.1 hx with rfl | hx
                    · exact HC.out
                    · exact HJ.out x hx), step HBq.out hHeld⟩
                  case measure => have := HK.out; simp [RowKit.intOf]; omega
                | false =>
                  rw [hc] at CF
                  have HC := hide (of_decide_eq_false hc)
                  clear hc
                  go_wp2_with fail
                  refine wp_region_quiet_below mixed (by kernel_rfl) ?_
                  quiet_step (fail)
                  quiet_step (fail)
                  quiet_step (fail)
                  quiet_step (fail)
                  quiet_step (fail)
                  quiet_step (fail)
                  quiet_step (fail)
                  quiet_step (fail)
                  quiet_step (fail)
                  quiet_step (exact Calls.regrown_of (CF.out _))
                  quiet_step (fail)
                  refine wpQuiet_nil ?_
                  intro w2 hw2
                  have hHeld := regrown_below hw2
                  clear hw2 KX k0 k1 k2 k3 k4 k5 k6 k7 k8 k9 k10
                  go_wp2_with fail
                  go_meet
                  case rel => exact ⟨j + 1, HJM.out, by rw [HK.out], Sp.rise_put HD.out.1 t (j + 1) HJ.out (.inr ⟨u, HU.out, by have := HC.out; omega⟩), step HBq.out hHeld⟩
          case rest =>
            obtain ⟨j, hjm, rfl, HRI, hbd⟩ := hcut
            have X3 := X2.later hbd
            have HX3 := hide X3
            have O3 := O2.out.later hbd
            have HB3 := hide (step HB2.out hbd)
            have HSZ : Hid (w.heap.size ≤ wc.heap.size) := HB3.out.size
            have HLEN : Hid ((d.take j ++ [t] ++ d.drop j).length ≤ k + 1) := by
              show _ ≤ _
              have h1 := HDL.out
              have h2 := HDM.out
              have e : (d.take j ++ [t] ++ d.drop j).length = d.length + 1 := by simp; omega
              rw [e]; omega
            have HD2 : Hid (Sp.Rise Sp.cmpC (d.take j ++ [t] ++ d.drop j) ∧ ∀ x, x ∈ d.take j ++ [t] ++ d.drop j ↔ x ∈ (ps.take (k + 1)).map pS ∧ Sp.cmpC x.1 x.2 < 0) := by
              refine ⟨HRI.out, fun x => ?_⟩
              rw [Sp.mem_put, HT.out, List.mem_append, List.mem_singleton, HD.out.2 x]
              constructor
              · rintro (rfl | ⟨h1, h2⟩)
                · exact ⟨.inr rfl, HNE.out⟩
                · exact ⟨.inl h1, h2⟩
              · rintro ⟨h1 | rfl, h2⟩
                · exact .inr ⟨h1, h2⟩
                · exact .inl rfl
            have HOK2 : Hid (Sp.okL (d.take j ++ [t] ++ d.drop j)) := by
              intro x hx
              rcases (Sp.mem_put d t j x).1 hx with rfl | hx
              · exact HOT.out
              · exact HOK.out x hx
            have HTL : Hid (m ≤ 9000 ∧ j ≤ m ∧ d.length = m) := ⟨by have := HDL.out; omega, hjm, HDM.out⟩
            obtain ⟨_, cX3, fX3⟩ := X3
            rcases O3.form with ⟨e3, rfl⟩ | ⟨g, cap3, e3, hBg, hlg, hdc3, hcm3, r3⟩
            · injection e3 with ea eb ec
              subst ea
              subst eb
              subst ec
              obtain rfl : j = 0 := by omega
              have hA : Hid (ERow ES wc none 0 (List.take 0 ([] : List Sp.S))) := ERow.none wc
              have hC : Hid (ERow ES wc none 0 (List.drop 0 ([] : List Sp.S))) := ERow.none wc
              clear X2 O2 HB2 hbd O3 HRI HDL HDM HD HOK HT HNE HOT
              go_wp2_with fail
              go_region_law (first
                | (refine step_eapp ES rfl _ _ rfl wc.heap.size _ [] none 0 0 (([] : List Sp.S).take 0) rfl rfl (EOwn.fresh (by first | exact at_new _ _ _ (by simp) | exact at_old _ _ _ (by simp) (at_new _ _ _ (by simp))) (by simp)) (hA.out.later (by first | exact bel1 _ _ _ | exact bel2 _ _ _ _)) (by first | (simp; done) | (have := HTL.out; simp; omega)) (by first | (simp; done) | (simp; omega)) ?_; intro v1 w1 o1 g1 t1; have B1 : RowKit.Below wc.heap.size wc w1 := RowKit.Below.grown (by first | exact bel1 _ _ _ | exact bel2 _ _ _ _) g1 (by first | (simp; done) | (simp; omega)) (by intro k e; first | (have e2 : some wc.heap.size = some k := e; simp at e2; omega) | (have e2 : some (wc.heap.size + 1) = some k := e; simp at e2; omega)); obtain ⟨_, c1, _⟩ := HX3.out.later B1; (first | (have rX : ERow ES w1 (some ⟨wc.heap.size + 1, 0, none⟩) 1 [t] := ERow.kept (ERow.drewAt (ERow.newAt _ t _ _ (by simp))) g1 (by intro e; have e2 : some (wc.heap.size + 1) = some wc.heap.size := e; simp at e2)) | (have rX : ERow ES w1 (some ⟨wc.heap.size, 0, none⟩) 1 [t] := ERow.kept (ERow.drewAt (ERow.oldAt _ (ERow.newAt _ t _ _ (by simp)))) g1 (by intro e; have e2 : some wc.heap.size = some (wc.heap.size + 1) := e; simp at e2)) | skip))
                | (refine step_eapp ES rfl _ _ rfl wc.heap.size v1 ([] ++ ([] : List Sp.S).take 0) (some _) 1 1 [t] rfl rfl (by first | exact o1 | exact o1.later (by repeat (first | with_reducible assumption | with_reducible exact Below.refl _ _ | with_reducible refine Below.setCell ?_ (by first | exact Nat.le_refl _ | (simp; done) | (simp; omega)) _ | with_reducible refine bal ?_ _ | with_reducible refine Below.alloc ?_ (by first | exact Nat.le_refl _ | (simp; done) | (simp; omega)) _ | with_reducible refine Below.drew ?_))) (by first | exact rX | exact ERow.newAt _ t _ _ rfl) (by first | (simp; done) | (have := HTL.out; simp; omega)) (by first | exact B1.size | (simp; have := B1.size; omega)) ?_; intro v2 w2 o2 g2 t2; have B2 : RowKit.Below wc.heap.size wc w2 := own_bel (by first | exact B1 | exact B1.alloc B1.size _) (by first | exact o1 | exact o1.later (by repeat (first | with_reducible assumption | with_reducible exact Below.refl _ _ | with_reducible refine Below.setCell ?_ (by first | exact Nat.le_refl _ | (simp; done) | (simp; omega)) _ | with_reducible refine bal ?_ _ | with_reducible refine Below.alloc ?_ (by first | exact Nat.le_refl _ | (simp; done) | (simp; omega)) _ | with_reducible refine Below.drew ?_))) g2 (by first | exact B1.size | (simp; have := B1.size; omega)))
                | (refine step_eapp ES rfl _ _ rfl wc.heap.size v2 ([] ++ ([] : List Sp.S).take 0 ++ [t]) none 0 0 (([] : List Sp.S).drop 0) rfl rfl o2 (hC.out.later B2) (by first | (simp; done) | (have := HTL.out; simp; omega)) B2.size ?_; intro v3 w3 o3 g3 t3; have B3 : RowKit.Below wc.heap.size wc w3 := own_bel B2 o2 g3 B2.size))
              all_goals
                go_wp2_with fail
                go_roundw
                case rel => exact ⟨k + 1, ([] : List Sp.S).take 0 ++ [t] ++ ([] : List Sp.S).drop 0, by omega, by go_num, (by have h := o3.base HSZ.out; rw [List.nil_append] at h; exact h), step HB3.out B3, HLEN.out, HD2, HOK2⟩
                case measure => simp [RowKit.intOf]; omega
            · injection e3 with ea eb ec
              subst ea
              subst ec
              subst eb
              have hA := hide (r3.pre j hjm)
              have hC := hide (r3.tail j hjm hdc3)
              have hjc : j ≤ cp := by omega
              have hjd : j ≤ d.length := hjm
              have q1 : (0 : Int) ≤ (j : Int) := by omega
              have q2 : (j : Int) ≤ (cp : Int) := by omega
              have q3 : (j : Int) ≤ (d.length : Int) := by omega
              clear X2 O2 HB2 hbd O3 HRI HDL HDM HD HOK HT HNE HOT r3 hBg hlg
              go_wp2_with fail
              go_region_law (first
                | (refine step_eapp ES rfl _ _ rfl wc.heap.size _ [] (some ⟨g, 0, none⟩) j cp (d.take j) rfl rfl (EOwn.fresh (by first | exact at_new _ _ _ (by simp) | exact at_old _ _ _ (by simp) (at_new _ _ _ (by simp))) (by simp)) (hA.out.later (by first | exact bel1 _ _ _ | exact bel2 _ _ _ _)) (by first | (simp; done) | (have := HTL.out; simp; omega)) (by first | (simp; done) | (simp; omega)) ?_; intro v1 w1 o1 g1 t1; have B1 : RowKit.Below wc.heap.size wc w1 := RowKit.Below.grown (by first | exact bel1 _ _ _ | exact bel2 _ _ _ _) g1 (by first | (simp; done) | (simp; omega)) (by intro k e; first | (have e2 : some wc.heap.size = some k := e; simp at e2; omega) | (have e2 : some (wc.heap.size + 1) = some k := e; simp at e2; omega)); obtain ⟨_, c1, _⟩ := HX3.out.later B1; (first | (have rX : ERow ES w1 (some ⟨wc.heap.size + 1, 0, none⟩) 1 [t] := ERow.kept (ERow.drewAt (ERow.newAt _ t _ _ (by simp))) g1 (by intro e; have e2 : some (wc.heap.size + 1) = some wc.heap.size := e; simp at e2)) | (have rX : ERow ES w1 (some ⟨wc.heap.size, 0, none⟩) 1 [t] := ERow.kept (ERow.drewAt (ERow.oldAt _ (ERow.newAt _ t _ _ (by simp)))) g1 (by intro e; have e2 : some wc.heap.size = some (wc.heap.size + 1) := e; simp at e2)) | skip))
                | (refine step_eapp ES rfl _ _ rfl wc.heap.size v1 ([] ++ d.take j) (some _) 1 1 [t] rfl rfl (by first | exact o1 | exact o1.later (by repeat (first | with_reducible assumption | with_reducible exact Below.refl _ _ | with_reducible refine Below.setCell ?_ (by first | exact Nat.le_refl _ | (simp; done) | (simp; omega)) _ | with_reducible refine bal ?_ _ | with_reducible refine Below.alloc ?_ (by first | exact Nat.le_refl _ | (simp; done) | (simp; omega)) _ | with_reducible refine Below.drew ?_))) (by first | exact rX | exact ERow.newAt _ t _ _ rfl) (by first | (simp; done) | (have := HTL.out; simp; omega)) (by first | exact B1.size | (simp; have := B1.size; omega)) ?_; intro v2 w2 o2 g2 t2; have B2 : RowKit.Below wc.heap.size wc w2 := own_bel (by first | exact B1 | exact B1.alloc B1.size _) (by first | exact o1 | exact o1.later (by repeat (first | with_reducible assumption | with_reducible exact Below.refl _ _ | with_reducible refine Below.setCell ?_ (by first | exact Nat.le_refl _ | (simp; done) | (simp; omega)) _ | with_reducible refine bal ?_ _ | with_reducible refine Below.alloc ?_ (by first | exact Nat.le_refl _ | (simp; done) | (simp; omega)) _ | with_reducible refine Below.drew ?_))) g2 (by first | exact B1.size | (simp; have := B1.size; omega)))
                | (refine step_eapp ES rfl _ _ rfl wc.heap.size v2 ([] ++ d.take j ++ [t]) (if cp = j then some ⟨g, 0, none⟩ else some ⟨g, j * 11, none⟩) (d.length - j) (cp - j) (d.drop j) rfl rfl o2 (hC.out.later B2) (by first | (simp; done) | (have := HTL.out; simp; omega)) B2.size ?_; intro v3 w3 o3 g3 t3; have B3 : RowKit.Below wc.heap.size wc w3 := own_bel B2 o2 g3 B2.size))
              all_goals
                go_wp2_with fail
                go_roundw
                case rel => exact ⟨k + 1, d.take j ++ [t] ++ d.drop j, by omega, by go_num, (by have h := o3.base HSZ.out; rw [List.nil_append] at h; exact h), step HB3.out B3, HLEN.out, HD2, HOK2⟩
                case measure => simp [RowKit.intOf]; omega
      · have hd : (!decide (Sp.cmpC (pS q).1 (pS q).2 < 0)) = true := by rw [decide_eq_false hne]; rfl
        rw [hd] at CE
        have HNE := hide hne
        clear hne hd hok hj
        go_wp2_with fail
        refine (CE.out _).mono ?_
        rintro e w1 ⟨rfl, b1⟩
        have hb1 : RowKit.Below wr.heap.size wr w1 := RowKit.Below.trans ((by repeat (first | with_reducible assumption | with_reducible exact Below.refl _ _ | with_reducible refine Below.setCell ?_ (by first | exact Nat.le_refl _ | (simp; done) | (simp; omega)) _ | with_reducible refine bal ?_ _ | with_reducible refine Below.alloc ?_ (by first | exact Nat.le_refl _ | (simp; done) | (simp; omega)) _ | with_reducible refine Below.drew ?_))) (b1.mono (by simp))
        clear b1 CE
        go_wp2_with fail
        go_roundw
        case rel => exact ⟨k + 1, d, by omega, by go_num, HO1.out.later hb1, step HB.out hb1, by have := HDL.out; omega, ⟨HD.out.1, fun t => by
          rw [HT.out, List.mem_append, List.mem_singleton, HD.out.2 t]
          constructor
          · rintro ⟨h1, h2⟩; exact ⟨.inl h1, h2⟩
          · rintro ⟨h1 | rfl, h2⟩
            · exact ⟨h1, h2⟩
            · exact absurd h2 (by have := HNE.out; omega)⟩, HOK⟩
        case measure => simp [RowKit.intOf]; omega
    · have hd : decide ((k : Int) < (n : Int)) = false := by simp; omega
      have HN : Hid (d.foldl Sp.stepR [] = Sp.nrm (ps.map pS)) := by
        refine Sp.fold_nrm HD.out.1 fun t => ?_
        have := HD.out.2 t
        rw [List.take_of_length_le (by omega)] at this
        exact this
      obtain ⟨ad, cp, rfl, hdc, hcm, hrow⟩ := HO1.out.any
      have HRW := hide hrow
      have HDN : Hid (d.length ≤ 9000) := by show _ ≤ _; have := HDL.out; omega
      have HSZ : Hid (w.heap.size ≤ wr.heap.size) := HB.out.size
      obtain ⟨W0, hW0⟩ : ∃ W, W = wr := ⟨_, rfl⟩
      subst hW0
      clear hdc hcm hrow HO1 HD HDL HR HO
      generalize hm : d.length = m at *
      have HDM := hide hm
      clear hm
      go_wp2_with fail
      go_loopw [4, 8] (fun o i wq => ∃ (k : Nat) (out : List Sp.S), k ≤ m ∧ i = .int .i64 k ∧ EOwn ES wq W0.heap.size o out ∧ RowKit.Below W0.heap.size W0 wq ∧ out.length ≤ k ∧ Hid (out = (d.take k).foldl Sp.stepR []) ∧ Hid (Sp.okL out)) (fun _ i _ => m - (RowKit.intOf i).toNat)
      case atStart => exact ⟨0, [], by omega, rfl, EOwn.nil _ _, RowKit.Below.refl _ _, by simp, rfl, fun _ h => nomatch h⟩
      case round =>
        obtain ⟨k, out, hk, rfl, o1, hB, hol, HF, HOO⟩ := hrel
        have HO1 := hide o1
        have HBq := hide hB
        have HOL := hide hol
        clear o1 hB hol
        by_cases hlt : k < m
        · have hlk : k < d.length := by rw [HDM.out]; exact hlt
          have hj : d[k]? = some d[k] := List.getElem?_eq_getElem hlk
          have hxo := HOK.out _ (List.getElem_mem hlk)
          obtain ⟨g, off, rfl⟩ := HRW.out.spot (by omega)
          have KS : Hid (∀ W, RowKit.Below W0.heap.size W0 W → W.cell? ⟨g, off + k * 11, none⟩ = some (.int .i64 (pt d[k]).a) ∧ W.cell? ⟨g, off + k * 11 + 1, none⟩ = some (.int .i64 (pt d[k]).b) ∧ W.cell? ⟨g, off + k * 11 + 2, none⟩ = some (.int .i64 (pt d[k]).c) ∧ W.cell? ⟨g, off + k * 11 + 3, none⟩ = some (.string (pt d[k]).p) ∧ W.cell? ⟨g, off + k * 11 + 4, none⟩ = some (.int .i64 (pt d[k]).a') ∧ W.cell? ⟨g, off + k * 11 + 5, none⟩ = some (.int .i64 (pt d[k]).b') ∧ W.cell? ⟨g, off + k * 11 + 6, none⟩ = some (.int .i64 (pt d[k]).c') ∧ W.cell? ⟨g, off + k * 11 + 7, none⟩ = some (.string (pt d[k]).p') ∧ W.cell? ⟨g, off + k * 11 + 8, none⟩ = some (.bool (pt d[k]).x) ∧ W.cell? ⟨g, off + k * 11 + 9, none⟩ = some (.bool (pt d[k]).y) ∧ W.cell? ⟨g, off + k * 11 + 10, none⟩ = some (.bool (pt d[k]).z)) := fun W h => ES_at (HRW.out.later h) k d[k] hj
          have HFS : Hid ((d.take (k + 1)).foldl Sp.stepR [] = Sp.stepR out d[k]) := by
            show _ = _
            rw [List.take_succ_eq_append_getElem hlk, List.foldl_append, ← HF.out]; rfl
          have HX : Hid (d[k]? = some d[k]) := hj
          generalize d[k] = x at *
          have HXO := hide hxo
          clear hxo hj hlk
          have i1 : (0 : Int) ≤ (k : Int) := by omega
          have i2 : (k : Int) < (m : Int) := by omega
          have HWK : Hid (wrap64 ((k : Int) + 1) = ((k + 1 : Nat) : Int)) := by show _ = _; have := HDN.out; unfold wrap64; omega
          have hk9 : Hid (k ≤ 9000) := by show _ ≤ _; have := HDN.out; omega
          obtain rfl | ⟨pre, t, hout⟩ := List.eq_nil_or_concat out
          · obtain ⟨ao, co, rfl, _, _, _⟩ := HO1.out.any
            have HST : Hid (Sp.stepR [] x = [] ++ [x]) := rfl
            obtain ⟨e0, e1, e2, e3, e4, e5, e6, e7, e8, e9, e10⟩ := KS.out wr HBq.out
            go_wp2_with fail
            go_quiet (fail)
            go_wp2_with (refine wpList_eapp ES rfl _ _ rfl W0.heap.size _ [] (some _) 1 1 [x] rfl rfl (HO1.out.later (bel3 _ _ _)) (ERow.drewNAt _ (ERow.newAt _ x _ _ rfl)) (by simp) (by have := HBq.out.size; simp; omega) ?_; intro v3 w3 o3 g3 t3)
            go_roundw
            case rel => exact ⟨k + 1, [] ++ [x], by omega, (by have e := HWK.out; simp [e]), o3, own_bel (HBq.out.trans ((bel3 _ _ _).mono HBq.out.size)) (HO1.out.later (bel3 _ _ _)) g3 (by have := HBq.out.size; simp; omega), by simp, by show _ = _; rw [HFS.out, HST.out], Sp.ok_l1 HXO.out⟩
            case measure => exact meas HWK.out hlt
          · rw [List.concat_eq_append] at hout
            subst hout
            have hpl : (pre ++ [t]).length = pre.length + 1 := by simp
            have HPL : Hid (pre.length + 1 ≤ k) := by show _ ≤ _; have := HOL.out; rw [hpl] at this; exact this
            rcases HO1.out.form with ⟨_, hnil⟩ | ⟨go, co, e, hWo, hgl, hnc, hmc, hro⟩
            · exact absurd hnil (by simp)
            rw [hpl] at e hro hnc
            subst e
            have KT : Hid (∀ W, RowKit.Below wr.heap.size wr W → _) := fun W h => ES_at0 (hro.later h) pre.length t (by simp)
            have hto := HOO.out t (by simp)
            have HST := hide (Sp.stepR_last pre t x)
            have CA : Hid (∀ W, Calls Tryz.prog 74 #[(pt t).val, (pt x).val] W fun e w' => e = .returned (.bool (decide (Sp.cmpC t.2 x.1 < 0))) ∧ RowKit.Below W.heap.size W w') := fun W => by
              have := rapart_any (pt t) (pt x) (okPt_pt hto) (okPt_pt HXO.out) W
              rw [pS_pt hto, pS_pt HXO.out] at this
              exact this
            have CL : Hid (∀ W, Calls Tryz.prog 75 #[(pt x).val, (pt t).val] W fun e w' => e = .returned (.bool (decide (Sp.cmpC t.2 x.2 < 0))) ∧ RowKit.Below W.heap.size W w') := fun W => by
              have := rlonger_any (pt x) (pt t) (okPt_pt HXO.out) (okPt_pt hto) W
              rw [pS_pt hto, pS_pt HXO.out] at this
              exact this
            have HTO := hide hto
            have HRO := hide hro
            have HWO := hide hWo
            have HNC := hide hnc
            clear hpl hto hro hWo hgl hmc hnc
            generalize hq : pre.length + 1 = P1 at *
            generalize hp : pre.length = p at *
            have HP := hide hp
            have HQ := hide hq
            clear hp hq
            have p4 : wrap64 ((P1 : Int) - 1) = (p : Int) := by have := hk9.out; have := HPL.out; have := HQ.out; unfold wrap64; omega
            have p5 : decide ((p : Int) < 0) = false := by simp
            have p6 : (0 : Int) ≤ (p : Int) := by omega
            have p7 : (p : Int) < (P1 : Int) := by have := HQ.out; omega
            go_upto_region 17 with fail
            rw [p4]
            cases hc : decide (Sp.cmpC t.2 x.1 < 0) with
            | true =>
              rw [hc] at CA
              have HC := hide (of_decide_eq_true hc)
              clear hc
              have s0 := fun dd os => (KS.out _ (step HBq.out (below_regrown wr dd os))).1
              have s1 := fun dd os => (KS.out _ (step HBq.out (below_regrown wr dd os))).2.1
              have s2 := fun dd os => (KS.out _ (step HBq.out (below_regrown wr dd os))).2.2.1
              have s3 := fun dd os => (KS.out _ (step HBq.out (below_regrown wr dd os))).2.2.2.1
              have s4 := fun dd os => (KS.out _ (step HBq.out (below_regrown wr dd os))).2.2.2.2.1
              have s5 := fun dd os => (KS.out _ (step HBq.out (below_regrown wr dd os))).2.2.2.2.2.1
              have s6 := fun dd os => (KS.out _ (step HBq.out (below_regrown wr dd os))).2.2.2.2.2.2.1
              have s7 := fun dd os => (KS.out _ (step HBq.out (below_regrown wr dd os))).2.2.2.2.2.2.2.1
              have s8 := fun dd os => (KS.out _ (step HBq.out (below_regrown wr dd os))).2.2.2.2.2.2.2.2.1
              have s9 := fun dd os => (KS.out _ (step HBq.out (below_regrown wr dd os))).2.2.2.2.2.2.2.2.2.1
              have s10 := fun dd os => (KS.out _ (step HBq.out (below_regrown wr dd os))).2.2.2.2.2.2.2.2.2.2
              have t0 := fun dd os => (KT.out _ (below_regrown wr dd os)).1
              have t1 := fun dd os => (KT.out _ (below_regrown wr dd os)).2.1
              have t2 := fun dd os => (KT.out _ (below_regrown wr dd os)).2.2.1
              have t3 := fun dd os => (KT.out _ (below_regrown wr dd os)).2.2.2.1
              have t4 := fun dd os => (KT.out _ (below_regrown wr dd os)).2.2.2.2.1
              have t5 := fun dd os => (KT.out _ (below_regrown wr dd os)).2.2.2.2.2.1
              have t6 := fun dd os => (KT.out _ (below_regrown wr dd os)).2.2.2.2.2.2.1
              have t7 := fun dd os => (KT.out _ (below_regrown wr dd os)).2.2.2.2.2.2.2.1
              have t8 := fun dd os => (KT.out _ (below_regrown wr dd os)).2.2.2.2.2.2.2.2.1
              have t9 := fun dd os => (KT.out _ (below_regrown wr dd os)).2.2.2.2.2.2.2.2.2.1
              have t10 := fun dd os => (KT.out _ (below_regrown wr dd os)).2.2.2.2.2.2.2.2.2.2
              refine wp_region_quiet_below mixed (by kernel_rfl) ?_
              quiet_step (fail)
              quiet_step (fail)
              quiet_step (fail)
              quiet_step (fail)
              quiet_step (fail)
              quiet_step (fail)
              quiet_step (fail)
              quiet_step (fail)
              quiet_step (fail)
              quiet_step (fail)
              quiet_step (fail)
              quiet_step (exact Calls.regrown_of (CA.out _))
              quiet_step (fail)
              refine wpQuiet_nil ?_
              intro w2 hw2
              have hHeld := regrown_below hw2
              clear hw2 s0 t0 s1 t1 s2 t2 s3 t3 s4 t4 s5 t5 s6 t6 s7 t7 s8 t8 s9 t9 s10 t10
              obtain ⟨e0, e1, e2, e3, e4, e5, e6, e7, e8, e9, e10⟩ := KS.out w2 (step HBq.out hHeld)
              have HST2 : Hid (Sp.stepR (pre ++ [t]) x = pre ++ [t] ++ [x]) := HST.out.trans (if_pos HC.out)
              have HO2 := hide (HO1.out.later hHeld)
              have HB2 := hide (step HBq.out hHeld)
              clear HO1 HBq hHeld
              go_wp2_with (refine wpList_eapp ES rfl _ _ rfl W0.heap.size _ (pre ++ [t]) (some _) 1 1 [x] rfl rfl (HO2.out.later (by repeat (first | with_reducible assumption | with_reducible exact Below.refl _ _ | with_reducible refine Below.setCell ?_ (by first | exact Nat.le_refl _ | (simp; done) | (simp; omega)) _ | with_reducible refine bal ?_ _ | with_reducible refine Below.alloc ?_ (by first | exact Nat.le_refl _ | (simp; done) | (simp; omega)) _ | with_reducible refine Below.drew ?_))) (ERow.newAt _ x _ _ rfl) (by have := HP.out; have := HQ.out; have := HPL.out; have := hk9.out; simp; omega) (by have := HB2.out.size; simp; omega) ?_; intro v3 w3 o3 g3 t3)
              go_roundw
              case rel => exact ⟨k + 1, pre ++ [t] ++ [x], by omega, (by have e := HWK.out; simp [e]), o3, own_bel (step HB2.out ((by repeat (first | with_reducible assumption | with_reducible exact Below.refl _ _ | with_reducible refine Below.setCell ?_ (by first | exact Nat.le_refl _ | (simp; done) | (simp; omega)) _ | with_reducible refine bal ?_ _ | with_reducible refine Below.alloc ?_ (by first | exact Nat.le_refl _ | (simp; done) | (simp; omega)) _ | with_reducible refine Below.drew ?_)))) (HO2.out.later (by repeat (first | with_reducible assumption | with_reducible exact Below.refl _ _ | with_reducible refine Below.setCell ?_ (by first | exact Nat.le_refl _ | (simp; done) | (simp; omega)) _ | with_reducible refine bal ?_ _ | with_reducible refine Below.alloc ?_ (by first | exact Nat.le_refl _ | (simp; done) | (simp; omega)) _ | with_reducible refine Below.drew ?_))) g3 (by have := HB2.out.size; simp; omega), (by have := HP.out; have := HQ.out; have := HPL.out; simp; omega), (by show _ = _; rw [HFS.out, HST2.out]), Sp.ok_app HOO.out (Sp.ok_l1 HXO.out)⟩
              case measure => exact meas HWK.out hlt
            | false =>
              rw [hc] at CA
              have HC := hide (of_decide_eq_false hc)
              clear hc
              have s0 := fun dd os => (KS.out _ (step HBq.out (below_regrown wr dd os))).1
              have s1 := fun dd os => (KS.out _ (step HBq.out (below_regrown wr dd os))).2.1
              have s2 := fun dd os => (KS.out _ (step HBq.out (below_regrown wr dd os))).2.2.1
              have s3 := fun dd os => (KS.out _ (step HBq.out (below_regrown wr dd os))).2.2.2.1
              have s4 := fun dd os => (KS.out _ (step HBq.out (below_regrown wr dd os))).2.2.2.2.1
              have s5 := fun dd os => (KS.out _ (step HBq.out (below_regrown wr dd os))).2.2.2.2.2.1
              have s6 := fun dd os => (KS.out _ (step HBq.out (below_regrown wr dd os))).2.2.2.2.2.2.1
              have s7 := fun dd os => (KS.out _ (step HBq.out (below_regrown wr dd os))).2.2.2.2.2.2.2.1
              have s8 := fun dd os => (KS.out _ (step HBq.out (below_regrown wr dd os))).2.2.2.2.2.2.2.2.1
              have s9 := fun dd os => (KS.out _ (step HBq.out (below_regrown wr dd os))).2.2.2.2.2.2.2.2.2.1
              have s10 := fun dd os => (KS.out _ (step HBq.out (below_regrown wr dd os))).2.2.2.2.2.2.2.2.2.2
              have t0 := fun dd os => (KT.out _ (below_regrown wr dd os)).1
              have t1 := fun dd os => (KT.out _ (below_regrown wr dd os)).2.1
              have t2 := fun dd os => (KT.out _ (below_regrown wr dd os)).2.2.1
              have t3 := fun dd os => (KT.out _ (below_regrown wr dd os)).2.2.2.1
              have t4 := fun dd os => (KT.out _ (below_regrown wr dd os)).2.2.2.2.1
              have t5 := fun dd os => (KT.out _ (below_regrown wr dd os)).2.2.2.2.2.1
              have t6 := fun dd os => (KT.out _ (below_regrown wr dd os)).2.2.2.2.2.2.1
              have t7 := fun dd os => (KT.out _ (below_regrown wr dd os)).2.2.2.2.2.2.2.1
              have t8 := fun dd os => (KT.out _ (below_regrown wr dd os)).2.2.2.2.2.2.2.2.1
              have t9 := fun dd os => (KT.out _ (below_regrown wr dd os)).2.2.2.2.2.2.2.2.2.1
              have t10 := fun dd os => (KT.out _ (below_regrown wr dd os)).2.2.2.2.2.2.2.2.2.2
              refine wp_region_quiet_below mixed (by kernel_rfl) ?_
              quiet_step (fail)
              quiet_step (fail)
              quiet_step (fail)
              quiet_step (fail)
              quiet_step (fail)
              quiet_step (fail)
              quiet_step (fail)
              quiet_step (fail)
              quiet_step (fail)
              quiet_step (fail)
              quiet_step (fail)
              quiet_step (exact Calls.regrown_of (CA.out _))
              quiet_step (fail)
              refine wpQuiet_nil ?_
              intro w2 hw2
              have hHeld := regrown_below hw2
              clear hw2 s0 t0 s1 t1 s2 t2 s3 t3 s4 t4 s5 t5 s6 t6 s7 t7 s8 t8 s9 t9 s10 t10
              have HO2 := hide (HO1.out.later hHeld)
              have HB2 := hide (step HBq.out hHeld)
              have HRO2 := hide (HRO.out.later hHeld)
              have HST1 : Hid (Sp.stepR (pre ++ [t]) x = if Sp.cmpC t.2 x.2 < 0 then pre ++ [(t.1, x.2)] else pre ++ [t]) := HST.out.trans (if_neg (by have := HC.out; omega))
              cases hc2 : decide (Sp.cmpC t.2 x.2 < 0) with
              | true =>
                rw [hc2] at CL
                have HC2 := hide (of_decide_eq_true hc2)
                clear hc2
                have s0 := fun dd os => (KS.out _ (step HB2.out (below_regrown w2 dd os))).1
                have s1 := fun dd os => (KS.out _ (step HB2.out (below_regrown w2 dd os))).2.1
                have s2 := fun dd os => (KS.out _ (step HB2.out (below_regrown w2 dd os))).2.2.1
                have s3 := fun dd os => (KS.out _ (step HB2.out (below_regrown w2 dd os))).2.2.2.1
                have s4 := fun dd os => (KS.out _ (step HB2.out (below_regrown w2 dd os))).2.2.2.2.1
                have s5 := fun dd os => (KS.out _ (step HB2.out (below_regrown w2 dd os))).2.2.2.2.2.1
                have s6 := fun dd os => (KS.out _ (step HB2.out (below_regrown w2 dd os))).2.2.2.2.2.2.1
                have s7 := fun dd os => (KS.out _ (step HB2.out (below_regrown w2 dd os))).2.2.2.2.2.2.2.1
                have s8 := fun dd os => (KS.out _ (step HB2.out (below_regrown w2 dd os))).2.2.2.2.2.2.2.2.1
                have s9 := fun dd os => (KS.out _ (step HB2.out (below_regrown w2 dd os))).2.2.2.2.2.2.2.2.2.1
                have s10 := fun dd os => (KS.out _ (step HB2.out (below_regrown w2 dd os))).2.2.2.2.2.2.2.2.2.2
                have t0 := fun dd os => (KT.out _ (step hHeld (below_regrown w2 dd os))).1
                have t1 := fun dd os => (KT.out _ (step hHeld (below_regrown w2 dd os))).2.1
                have t2 := fun dd os => (KT.out _ (step hHeld (below_regrown w2 dd os))).2.2.1
                have t3 := fun dd os => (KT.out _ (step hHeld (below_regrown w2 dd os))).2.2.2.1
                have t4 := fun dd os => (KT.out _ (step hHeld (below_regrown w2 dd os))).2.2.2.2.1
                have t5 := fun dd os => (KT.out _ (step hHeld (below_regrown w2 dd os))).2.2.2.2.2.1
                have t6 := fun dd os => (KT.out _ (step hHeld (below_regrown w2 dd os))).2.2.2.2.2.2.1
                have t7 := fun dd os => (KT.out _ (step hHeld (below_regrown w2 dd os))).2.2.2.2.2.2.2.1
                have t8 := fun dd os => (KT.out _ (step hHeld (below_regrown w2 dd os))).2.2.2.2.2.2.2.2.1
                have t9 := fun dd os => (KT.out _ (step hHeld (below_regrown w2 dd os))).2.2.2.2.2.2.2.2.2.1
                have t10 := fun dd os => (KT.out _ (step hHeld (below_regrown w2 dd os))).2.2.2.2.2.2.2.2.2.2
                go_wp2_with fail
                refine wp_region_quiet_below mixed (by kernel_rfl) ?_
                quiet_step (fail)
                quiet_step (fail)
                quiet_step (fail)
                quiet_step (fail)
                quiet_step (fail)
                quiet_step (fail)
                quiet_step (fail)
                quiet_step (fail)
                quiet_step (exact Calls.regrown_of (CL.out _))
                refine wpQuiet_nil ?_
                intro w3 hw3
                have h3 := regrown_below hw3
                clear hw3 s0 t0 s1 t1 s2 t2 s3 t3 s4 t4 s5 t5 s6 t6 s7 t7 s8 t8 s9 t9 s10 t10
                go_wp2_with fail
                have HO3 := hide (HO2.out.later h3)
                have HB3 := hide (step HB2.out h3)
                obtain ⟨e0, e1, e2, e3, e4, e5, e6, e7, e8, e9, e10⟩ := KS.out w3 (step HB2.out h3)
                obtain ⟨f0, f1, f2, f3, f4, f5, f6, f7, f8, f9, f10⟩ := KT.out w3 (step hHeld h3)
                have fz := HO3.out.frz
                have hne : ¬ g = go := fun e => by have h1 := HRW.out.lt (by omega); have h2 := HWO.out; omega
                have hne2 : ¬ go = g := fun e => hne e.symm
                have HST2 : Hid (Sp.stepR (pre ++ [t]) x = pre ++ [(t.1, x.2)]) := HST1.out.trans (if_pos HC2.out)
                have hx := HX.out
                have KV := fun w' (h : w3.grownBy w' (some go)) => ES_at ((HRW.out.later HB3.out).keptAt h (fun e => hne (Option.some.inj e))) k x hx
                have v4 := fun w' h => (KV w' h).2.2.2.2.1
                have v5 := fun w' h => (KV w' h).2.2.2.2.2.1
                have v6 := fun w' h => (KV w' h).2.2.2.2.2.2.1
                have v7 := fun w' h => (KV w' h).2.2.2.2.2.2.2.1
                have v9 := fun w' h => (KV w' h).2.2.2.2.2.2.2.2.2.1
                have v10 := fun w' h => (KV w' h).2.2.2.2.2.2.2.2.2.2
                have hB0 := grownBy_below (some go) (RowKit.Below.refl w3.heap.size w3)
                clear HO1 HO2 HB2 HBq hHeld h3 KS KT KV hx e0 e1 e2 e3 e4 e5 e6 e7 e8 e9 e10 f0 f1 f2 f3 f8
                go_region_held3 (fun w' => w3.grownBy w' (some go)) (first | with_reducible assumption | (repeat (first | with_reducible refine grown_drew ?_ | with_reducible refine grown_set1 ?_)); with_reducible assumption) (fail)
                go_wp2_with fail
                go_roundw
                case rel =>
                  have gh : w3.grownBy _ (some go) := grown_drew (@grown_high w3 go p (.int .i64 (pt x).a') (.int .i64 (pt x).b') (.int .i64 (pt x).c') (.string (pt x).p') (.bool (pt x).y) (.bool (pt x).z))
                  refine ⟨k + 1, pre ++ [(t.1, x.2)], by omega, (by have e := HWK.out; simp [e]), (EOwn.high (x := x) HO3.out HP.out).later ((by repeat (first | with_reducible assumption | with_reducible exact Below.refl _ _ | with_reducible refine Below.setCell ?_ (by first | exact Nat.le_refl _ | (simp; done) | (simp; omega)) _ | with_reducible refine bal ?_ _ | with_reducible refine Below.alloc ?_ (by first | exact Nat.le_refl _ | (simp; done) | (simp; omega)) _ | with_reducible refine Below.drew ?_))), HB3.out.grown gh HB3.out.size (fun j e => by have := Option.some.inj e; have := HWO.out; omega), (by have := HP.out; have := HQ.out; have := HPL.out; simp; omega), (by show _ = _; rw [HFS.out, HST2.out]), ?_⟩
                  intro s hs
                  rcases List.mem_append.1 hs with hs | hs
                  · exact HOO.out s (by simp [hs])
                  · rw [List.mem_singleton.1 hs]
                    exact ⟨HTO.out.1, HTO.out.2.1, HXO.out.2.2⟩
                case measure => exact meas HWK.out hlt
              | false =>
                rw [hc2] at CL
                have HC2 := hide (of_decide_eq_false hc2)
                clear hc2
                have s0 := fun dd os => (KS.out _ (step HB2.out (below_regrown w2 dd os))).1
                have s1 := fun dd os => (KS.out _ (step HB2.out (below_regrown w2 dd os))).2.1
                have s2 := fun dd os => (KS.out _ (step HB2.out (below_regrown w2 dd os))).2.2.1
                have s3 := fun dd os => (KS.out _ (step HB2.out (below_regrown w2 dd os))).2.2.2.1
                have s4 := fun dd os => (KS.out _ (step HB2.out (below_regrown w2 dd os))).2.2.2.2.1
                have s5 := fun dd os => (KS.out _ (step HB2.out (below_regrown w2 dd os))).2.2.2.2.2.1
                have s6 := fun dd os => (KS.out _ (step HB2.out (below_regrown w2 dd os))).2.2.2.2.2.2.1
                have s7 := fun dd os => (KS.out _ (step HB2.out (below_regrown w2 dd os))).2.2.2.2.2.2.2.1
                have s8 := fun dd os => (KS.out _ (step HB2.out (below_regrown w2 dd os))).2.2.2.2.2.2.2.2.1
                have s9 := fun dd os => (KS.out _ (step HB2.out (below_regrown w2 dd os))).2.2.2.2.2.2.2.2.2.1
                have s10 := fun dd os => (KS.out _ (step HB2.out (below_regrown w2 dd os))).2.2.2.2.2.2.2.2.2.2
                have t0 := fun dd os => (KT.out _ (step hHeld (below_regrown w2 dd os))).1
                have t1 := fun dd os => (KT.out _ (step hHeld (below_regrown w2 dd os))).2.1
                have t2 := fun dd os => (KT.out _ (step hHeld (below_regrown w2 dd os))).2.2.1
                have t3 := fun dd os => (KT.out _ (step hHeld (below_regrown w2 dd os))).2.2.2.1
                have t4 := fun dd os => (KT.out _ (step hHeld (below_regrown w2 dd os))).2.2.2.2.1
                have t5 := fun dd os => (KT.out _ (step hHeld (below_regrown w2 dd os))).2.2.2.2.2.1
                have t6 := fun dd os => (KT.out _ (step hHeld (below_regrown w2 dd os))).2.2.2.2.2.2.1
                have t7 := fun dd os => (KT.out _ (step hHeld (below_regrown w2 dd os))).2.2.2.2.2.2.2.1
                have t8 := fun dd os => (KT.out _ (step hHeld (below_regrown w2 dd os))).2.2.2.2.2.2.2.2.1
                have t9 := fun dd os => (KT.out _ (step hHeld (below_regrown w2 dd os))).2.2.2.2.2.2.2.2.2.1
                have t10 := fun dd os => (KT.out _ (step hHeld (below_regrown w2 dd os))).2.2.2.2.2.2.2.2.2.2
                go_wp2_with fail
                refine wp_region_quiet_below mixed (by kernel_rfl) ?_
                quiet_step (fail)
                quiet_step (fail)
                quiet_step (fail)
                quiet_step (fail)
                quiet_step (fail)
                quiet_step (fail)
                quiet_step (fail)
                quiet_step (fail)
                quiet_step (exact Calls.regrown_of (CL.out _))
                refine wpQuiet_nil ?_
                intro w3 hw3
                have h3 := regrown_below hw3
                clear hw3 s0 t0 s1 t1 s2 t2 s3 t3 s4 t4 s5 t5 s6 t6 s7 t7 s8 t8 s9 t9 s10 t10
                go_wp2_with fail
                go_roundw
                case rel => exact ⟨k + 1, pre ++ [t], by omega, (by have e := HWK.out; simp [e]), HO2.out.later h3, step HB2.out h3, (by have := HP.out; have := HQ.out; have := HPL.out; simp; omega), (by show _ = _; rw [HFS.out, HST1.out, if_neg (by have := HC2.out; omega)]), HOO⟩
                case measure => exact meas HWK.out hlt
        · have hd : decide ((k : Int) < (m : Int)) = false := by simp; omega
          have HE : Hid (out = Sp.nrm (ps.map pS)) := by
            show _ = _
            rw [HF.out, List.take_of_length_le (by rw [HDM.out]; omega)]
            exact HN.out
          go_wp2_with fail
          go_ret
          exact ⟨_, rfl, by rw [← HE.out]; exact HO1.out.base HSZ.out, step HB.out HBq.out⟩
end Go.Proofs.YthihnpjbdjmbhaaGreatDoor
