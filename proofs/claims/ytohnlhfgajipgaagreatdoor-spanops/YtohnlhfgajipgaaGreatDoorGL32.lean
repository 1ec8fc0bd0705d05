/-
  The walk of SpanOps.
-/
import Derived.Test.YtohnlhfgajipgaaGreatDoorG33
import Derived.Test.YtohnlhfgajipgaaGreatDoorG36
import Derived.Test.YtohnlhfgajipgaaGreatDoorG35
import Derived.Test.YtohnlhfgajipgaaGreatDoorG37
import Derived.BigQuiet

namespace Go.Proofs.YtohnlhfgajipgaaGreatDoor.spanOps
set_option linter.unusedSimpArgs false
set_option linter.unusedVariables false
open Go.RowKit Go.Vr Go.Sort Go.Tx Go.Lib
attribute [local go_sem] setCellDrewN allocDrewN

theorem or_three {a b c : List Sp.S} (ha : Sp.Row a) (hb : Sp.Row b) (hc : Sp.Row c) : Sp.nrm [a, b, c].flatten = Sp.nrm [Sp.nrm [a, b].flatten, c].flatten := by
  have h := Sp.or_or ha hb hc
  rw [← h, Sp.or_app, Sp.or_app]

set_option maxHeartbeats 16000000 in
set_option maxRecDepth 100000 in
theorem walk (a0 : Option Addr) (len0 cap0 : Nat) (z0 : List Int) (a1 : Option Addr) (len1 cap1 : Nat) (z1 : List Int) (a2 : Option Addr) (len2 cap2 : Nat) (z2 : List Int) (a3 a4 : Int) (w : World) (he : Env w) (w0 : IsRow .i64 w a0 len0 cap0 z0) (w1 : IsRow .i64 w a1 len1 cap1 z1) (w2 : IsRow .i64 w a2 len2 cap2 z2) (h3 : -9223372036854775808 ≤ a3 ∧ a3 ≤ 9223372036854775807) (h4 : -9223372036854775808 ≤ a4 ∧ a4 ≤ 9223372036854775807) :
    Calls Tryz.prog 3 #[.slice a0 len0 cap0, .slice a1 len1 cap1, .slice a2 len2 cap2, .int .i64 a3, .int .i64 a4] w fun e w' => e = .returned (.bool true) ∧ RowKit.Below w.heap.size w w' := by
  have HE := hide he
  have R0 := hide w0.row
  have R1 := hide w1.row
  have R2 := hide w2.row
  have H34 := hide (And.intro h3 h4)
  clear he w0 w1 w2 h3 h4
  go_enter Tryz.func3, Tryz.ntmps3
  go_wp2_with fail
  refine (known3_any w HE.out).mono ?_
  rintro e W0 ⟨rfl, b⟩
  have B := hide b
  clear b
  go_wp2_with fail
  refine (mk_sl _ _ _ _ _ (R0.out.later B.out)).mono ?_
  rintro e W1 ⟨ada, na, ca, la, rfl, r, b⟩
  replace B := hide (step B.out b)
  have Sa := hide r
  clear b r
  go_wp2_with fail
  refine (mk_sl _ _ _ _ _ (R1.out.later B.out)).mono ?_
  rintro e W2 ⟨adb, nb, cb, lb, rfl, r, b⟩
  replace Sa := hide (Sa.out.later b)
  replace B := hide (step B.out b)
  have Sb := hide r
  clear b r
  go_wp2_with fail
  refine (mk_sl _ _ _ _ _ (R2.out.later B.out)).mono ?_
  rintro e W3 ⟨adc, nc, cc, lc, rfl, r, b⟩
  replace Sa := hide (Sa.out.later b)
  replace Sb := hide (Sb.out.later b)
  replace B := hide (step B.out b)
  have Sc := hide r
  clear b r
  have Ha := hide Sa.out.row
  have Hb := hide Sb.out.row
  have Hc := hide Sc.out.row
  go_wp2_with fail
  refine (and_sl _ (HE.out.later B.out) _ _ _ _ _ _ _ _ 7 7 Sa.out Sb.out (by omega) (by omega)).mono ?_
  rintro e W4 ⟨adx, nx, cx, rfl, r, b⟩
  replace Sa := hide (Sa.out.later b)
  replace Sb := hide (Sb.out.later b)
  replace Sc := hide (Sc.out.later b)
  replace B := hide (step B.out b)
  have Sx := hide r
  clear b r
  go_wp2_with fail
  refine (or3_sl _ (HE.out.later B.out) _ _ _ _ _ _ _ _ _ _ _ _ 7 7 7 Sa.out Sb.out Sc.out (by omega) (by omega) (by omega)).mono ?_
  rintro e W5 ⟨ady, ny, cy, rfl, r, b⟩
  replace Sa := hide (Sa.out.later b)
  replace Sb := hide (Sb.out.later b)
  replace Sc := hide (Sc.out.later b)
  replace Sx := hide (Sx.out.later b)
  replace B := hide (step B.out b)
  have Sy := hide r
  clear b r
  go_wp2_with fail
  refine (not_sl _ (HE.out.later B.out) _ _ _ _ 7 Sa.out (by omega)).mono ?_
  rintro e W6 ⟨adz, nz, cz, rfl, r, b⟩
  replace Sa := hide (Sa.out.later b)
  replace Sb := hide (Sb.out.later b)
  replace Sc := hide (Sc.out.later b)
  replace Sx := hide (Sx.out.later b)
  replace Sy := hide (Sy.out.later b)
  replace B := hide (step B.out b)
  have Sz := hide r
  clear b r
  go_wp2_with fail
  refine (rand_sl _ _ _ _ _ _ _ _ _ 7 7 Sa.out Sb.out (by omega) (by omega)).mono ?_
  rintro e W7 ⟨add, nd, cd, rfl, r, b⟩
  replace Sa := hide (Sa.out.later b)
  replace Sb := hide (Sb.out.later b)
  replace Sc := hide (Sc.out.later b)
  replace Sx := hide (Sx.out.later b)
  replace Sy := hide (Sy.out.later b)
  replace Sz := hide (Sz.out.later b)
  replace B := hide (step B.out b)
  have Sd := hide r
  clear b r
  go_wp2_with fail
  refine (same_sl _ _ _ _ _ _ _ _ _ _ _ Sx.out Sd.out (by omega) rfl).mono ?_
  rintro e W8 ⟨rfl, b⟩
  replace Sa := hide (Sa.out.later b)
  replace Sb := hide (Sb.out.later b)
  replace Sc := hide (Sc.out.later b)
  replace Sx := hide (Sx.out.later b)
  replace Sy := hide (Sy.out.later b)
  replace Sz := hide (Sz.out.later b)
  replace Sd := hide (Sd.out.later b)
  replace B := hide (step B.out b)
  clear b
  go_wp2_with fail
  refine (ror_sl _ _ _ _ _ _ _ _ _ 7 7 Sa.out Sb.out (by omega) (by omega)).mono ?_
  rintro e W9 ⟨ade, ne, ce, rfl, r, b⟩
  replace Sa := hide (Sa.out.later b)
  replace Sb := hide (Sb.out.later b)
  replace Sc := hide (Sc.out.later b)
  replace Sx := hide (Sx.out.later b)
  replace Sy := hide (Sy.out.later b)
  replace Sz := hide (Sz.out.later b)
  replace B := hide (step B.out b)
  have Se := hide r
  clear b r
  go_wp2_with fail
  refine (ror_sl _ _ _ _ _ _ _ _ _ _ 7 Se.out Sc.out (by omega) (by omega)).mono ?_
  rintro e W10 ⟨adf, nf, cf, rfl, r, b⟩
  replace Sa := hide (Sa.out.later b)
  replace Sb := hide (Sb.out.later b)
  replace Sc := hide (Sc.out.later b)
  replace Sx := hide (Sx.out.later b)
  replace Sy := hide (Sy.out.later b)
  replace Sz := hide (Sz.out.later b)
  replace Se := hide (Se.out.later b)
  replace B := hide (step B.out b)
  have Sf := hide r
  clear b r
  go_wp2_with fail
  refine (same_sl _ _ _ _ _ _ _ _ _ _ _ Sy.out Sf.out (by omega) (or_three Ha.out Hb.out Hc.out)).mono ?_
  rintro e W11 ⟨rfl, b⟩
  replace Sa := hide (Sa.out.later b)
  replace Sb := hide (Sb.out.later b)
  replace Sc := hide (Sc.out.later b)
  replace Sx := hide (Sx.out.later b)
  replace Sy := hide (Sy.out.later b)
  replace Sz := hide (Sz.out.later b)
  replace Sf := hide (Sf.out.later b)
  replace B := hide (step B.out b)
  clear b
  go_wp2_with fail
  refine (rnot_sl _ _ _ _ _ 7 Sa.out (by omega)).mono ?_
  rintro e W12 ⟨adg, ng, cg, rfl, r, b⟩
  replace Sa := hide (Sa.out.later b)
  replace Sb := hide (Sb.out.later b)
  replace Sc := hide (Sc.out.later b)
  replace Sx := hide (Sx.out.later b)
  replace Sy := hide (Sy.out.later b)
  replace Sz := hide (Sz.out.later b)
  replace B := hide (step B.out b)
  have Sg := hide r
  clear b r
  go_wp2_with fail
  refine (same_sl _ _ _ _ _ _ _ _ _ _ _ Sz.out Sg.out (by omega) rfl).mono ?_
  rintro e W13 ⟨rfl, b⟩
  replace Sa := hide (Sa.out.later b)
  replace Sb := hide (Sb.out.later b)
  replace Sc := hide (Sc.out.later b)
  replace Sx := hide (Sx.out.later b)
  replace Sy := hide (Sy.out.later b)
  replace Sz := hide (Sz.out.later b)
  replace Sg := hide (Sg.out.later b)
  replace B := hide (step B.out b)
  clear b
  clear Sd Se Sf Sg
  have HN : Hid (na ≤ 7 ∧ nb ≤ 7 ∧ la.length = na ∧ lb.length = nb) := ⟨Sa.out.le, Sb.out.le, Sa.out.r.n, Sb.out.r.n⟩
  go_wp2_with (first
    | (refine wpList_eapp ES rfl _ _ rfl W13.heap.size v1 ([] ++ la) adb nb cb lb rfl rfl o1 (Sb.out.r.later B1) (by have := HN.out; simp; omega) B1.size ?_; intro v2 w2 o2 g2 t2; have b : RowKit.Below W13.heap.size W13 w2 := own_bel B1 o1 g2 B1.size)
    | (refine wpList_eapp ES rfl _ _ rfl W13.heap.size _ [] ada na ca la rfl rfl (EOwn.fresh (at_new _ _ _ (by simp)) (by simp)) (Sa.out.r.later (by repeat (first | with_reducible assumption | with_reducible exact Below.refl _ _ | with_reducible refine Below.setCell ?_ (by first | exact Nat.le_refl _ | (simp; done) | (simp; omega)) _ | with_reducible refine bal ?_ _ | with_reducible refine Below.alloc ?_ (by first | exact Nat.le_refl _ | (simp; done) | (simp; omega)) _ | with_reducible refine Below.drew ?_))) (by have := HN.out; simp; omega) (by simp) ?_; intro v1 w1 o1 g1 t1; have B1 : RowKit.Below W13.heap.size W13 w1 := RowKit.Below.grown (show RowKit.Below W13.heap.size W13 (W13.alloc (.cells #[] 57)) from (by repeat (first | with_reducible assumption | with_reducible exact Below.refl _ _ | with_reducible refine Below.setCell ?_ (by first | exact Nat.le_refl _ | (simp; done) | (simp; omega)) _ | with_reducible refine bal ?_ _ | with_reducible refine Below.alloc ?_ (by first | exact Nat.le_refl _ | (simp; done) | (simp; omega)) _ | with_reducible refine Below.drew ?_))) g1 (by simp) (by intro k e; have e2 : some W13.heap.size = some k := e; simp at e2; omega)))
  rw [List.nil_append] at o2
  obtain ⟨ad2, cp2, rfl, _, _, r2⟩ := o2.any
  have CP := hide (points_sl w2 ad2 _ cp2 _ a3 a4 r2 (Sp.ok_app Ha.out.ok Hb.out.ok) (by have := HN.out; simp; omega) H34.out.1 H34.out.2)
  clear r2 o2 o1 g1 g2 t1 t2 B1
  replace Sa := hide (Sa.out.later b)
  replace Sb := hide (Sb.out.later b)
  replace Sc := hide (Sc.out.later b)
  replace Sx := hide (Sx.out.later b)
  replace Sy := hide (Sy.out.later b)
  replace Sz := hide (Sz.out.later b)
  replace B := hide (step B.out b)
  clear b
  have HM : Hid ((la ++ lb).length ≤ 14) := by show _ ≤ _; have := HN.out; simp; omega
  generalize (la ++ lb).length = m2 at *
  go_wp2_with fail
  refine CP.out.mono ?_
  rintro e Wp ⟨ap, np, cpp, ps, rfl, rp, hnp, okp, b⟩
  replace Sa := hide (Sa.out.later b)
  replace Sb := hide (Sb.out.later b)
  replace Sc := hide (Sc.out.later b)
  replace Sx := hide (Sx.out.later b)
  replace Sy := hide (Sy.out.later b)
  replace Sz := hide (Sz.out.later b)
  replace B := hide (step B.out b)
  have RP := hide rp
  have OKP := hide okp
  have HNP : Hid (np ≤ 60) := by show _ ≤ _; have := HM.out; omega
  clear b rp okp CP hnp HM HN
  go_wp2_with fail
  go_loopw [18] (fun i wr => ∃ k : Nat, k ≤ np ∧ i = .int .i64 k ∧ Hid (RowKit.Below Wp.heap.size Wp wr)) (fun i _ => np - (RowKit.intOf i).toNat)
  case atStart => exact ⟨0, by omega, rfl, hide (RowKit.Below.refl _ _)⟩
  case round =>
    obtain ⟨k, hk, rfl, BW⟩ := hrel
    have hnp60 : np ≤ 60 := HNP.out
    by_cases hlt : k < np
    · obtain ⟨g, off, rfl⟩ := RP.out.spot (by omega)
      have hlk : k < ps.length := by rw [RP.out.n]; exact hlt
      have hj : ps[k]? = some ps[k] := List.getElem?_eq_getElem hlk
      have okv := OKP.out _ (List.getElem_mem hlk)
      have KD := fun dd os => EV_at (RP.out.later (step BW.out (below_regrown wr dd os))) k ps[k] hj
      have k0 := fun dd os => (KD dd os).1
      have k1 := fun dd os => (KD dd os).2.1
      have k2 := fun dd os => (KD dd os).2.2.1
      have k3 := fun dd os => (KD dd os).2.2.2
      have KV := hide hj
      clear KD hj
      generalize ps[k] = v at *
      clear hlk
      have hE : Hid (∀ W', RowKit.Below wr.heap.size wr W' → Env W') := fun W' h => HE.out.later (step (step B.out BW.out) h)
      have Ca : Hid (∀ W', RowKit.Below wr.heap.size wr W' → Calls Tryz.prog 24 #[.slice ada na ca, ver v.a v.b v.c v.p] W' fun e w' => e = .returned (.bool ((la).any (inSp (some (v, false))))) ∧ RowKit.Below W'.heap.size W' w') := fun W' h => has_sl W' (hE.out W' h) _ _ _ _ _ v (Sa.out.later (step BW.out h)) (by omega) okv
      have Cb : Hid (∀ W', RowKit.Below wr.heap.size wr W' → Calls Tryz.prog 24 #[.slice adb nb cb, ver v.a v.b v.c v.p] W' fun e w' => e = .returned (.bool ((lb).any (inSp (some (v, false))))) ∧ RowKit.Below W'.heap.size W' w') := fun W' h => has_sl W' (hE.out W' h) _ _ _ _ _ v (Sb.out.later (step BW.out h)) (by omega) okv
      have Cc : Hid (∀ W', RowKit.Below wr.heap.size wr W' → Calls Tryz.prog 24 #[.slice adc nc cc, ver v.a v.b v.c v.p] W' fun e w' => e = .returned (.bool ((lc).any (inSp (some (v, false))))) ∧ RowKit.Below W'.heap.size W' w') := fun W' h => has_sl W' (hE.out W' h) _ _ _ _ _ v (Sc.out.later (step BW.out h)) (by omega) okv
      have Cx : Hid (∀ W', RowKit.Below wr.heap.size wr W' → Calls Tryz.prog 24 #[.slice adx nx cx, ver v.a v.b v.c v.p] W' fun e w' => e = .returned (.bool ((Sp.allL [la, lb]).any (inSp (some (v, false))))) ∧ RowKit.Below W'.heap.size W' w') := fun W' h => has_sl W' (hE.out W' h) _ _ _ _ _ v (Sx.out.later (step BW.out h)) (by omega) okv
      have Cy : Hid (∀ W', RowKit.Below wr.heap.size wr W' → Calls Tryz.prog 24 #[.slice ady ny cy, ver v.a v.b v.c v.p] W' fun e w' => e = .returned (.bool ((Sp.nrm [la, lb, lc].flatten).any (inSp (some (v, false))))) ∧ RowKit.Below W'.heap.size W' w') := fun W' h => has_sl W' (hE.out W' h) _ _ _ _ _ v (Sy.out.later (step BW.out h)) (by omega) okv
      have Cz : Hid (∀ W', RowKit.Below wr.heap.size wr W' → Calls Tryz.prog 24 #[.slice adz nz cz, ver v.a v.b v.c v.p] W' fun e w' => e = .returned (.bool ((Sp.notL la).any (inSp (some (v, false))))) ∧ RowKit.Below W'.heap.size W' w') := fun W' h => has_sl W' (hE.out W' h) _ _ _ _ _ v (Sz.out.later (step BW.out h)) (by omega) okv
      have CR : Hid (∀ W', RowKit.Below wr.heap.size wr W' → Calls Tryz.prog 25 #[.slice ada na ca, ver v.a v.b v.c v.p] W' fun e w' => e = .returned (.bool (la.any (inSp (some (v, false))))) ∧ RowKit.Below W'.heap.size W' w') := fun W' h => rhas_sl W' _ _ _ _ _ v (Sa.out.later (step BW.out h)) (by omega) okv
      rw [any_and Ha.out Hb.out] at Cx
      rw [any_or3] at Cy
      rw [any_nots Ha.out _ (inR_v okv)] at Cz
      generalize la.any (inSp (some (v, false))) = A at *
      generalize lb.any (inSp (some (v, false))) = D at *
      generalize lc.any (inSp (some (v, false))) = F at *
      clear hE okv
      have i1 : (0 : Int) ≤ (k : Int) := by omega
      have i2 : (k : Int) < (np : Int) := by omega
      go_wp2_with fail
      refine wp_region_quiet_below mixed (by kernel_rfl) ?_
      go_big_quiet_step (fail)
      go_big_quiet_step (fail)
      go_big_quiet_step (fail)
      go_big_quiet_step (fail)
      go_big_quiet_step (fail)
      go_big_quiet_step (exact Calls.regrown_of (Ca.out _ (below_regrown wr _ _)))
      go_big_quiet_step (fail)
      go_big_quiet_step (fail)
      go_big_quiet_step (fail)
      go_big_quiet_step (fail)
      go_big_quiet_step (fail)
      go_big_quiet_step (exact Calls.regrown_of (Cb.out _ (below_regrown wr _ _)))
      go_big_quiet_step (fail)
      go_big_quiet_step (fail)
      go_big_quiet_step (fail)
      go_big_quiet_step (fail)
      go_big_quiet_step (fail)
      go_big_quiet_step (exact Calls.regrown_of (Cc.out _ (below_regrown wr _ _)))
      go_big_quiet_step (fail)
      go_big_quiet_step (fail)
      go_big_quiet_step (fail)
      refine wpQuiet_nil ?_
      intro w2 hw2
      have b2 := regrown_below hw2
      clear hw2 k0 k1 k2 k3 Ca Cb Cc
      have BW2 := hide (step BW.out b2)
      have KD := fun dd os => EV_at (RP.out.later (step BW2.out (below_regrown w2 dd os))) k v KV.out
      have k0 := fun dd os => (KD dd os).1
      have k1 := fun dd os => (KD dd os).2.1
      have k2 := fun dd os => (KD dd os).2.2.1
      have k3 := fun dd os => (KD dd os).2.2.2
      clear KD
      cases A <;> cases D
      · cases F
        · have Dx : Hid (∀ W', RowKit.Below w2.heap.size w2 W' → Calls Tryz.prog 24 #[.slice adx nx cx, ver v.a v.b v.c v.p] W' fun e w' => e = .returned (.bool false) ∧ RowKit.Below W'.heap.size W' w') := fun W' h => Cx.out W' (step b2 h)
          have Dy : Hid (∀ W', RowKit.Below w2.heap.size w2 W' → Calls Tryz.prog 24 #[.slice ady ny cy, ver v.a v.b v.c v.p] W' fun e w' => e = .returned (.bool false) ∧ RowKit.Below W'.heap.size W' w') := fun W' h => Cy.out W' (step b2 h)
          have Dz : Hid (∀ W', RowKit.Below w2.heap.size w2 W' → Calls Tryz.prog 24 #[.slice adz nz cz, ver v.a v.b v.c v.p] W' fun e w' => e = .returned (.bool true) ∧ RowKit.Below W'.heap.size W' w') := fun W' h => Cz.out W' (step b2 h)
          have DR : Hid (∀ W', RowKit.Below w2.heap.size w2 W' → Calls Tryz.prog 25 #[.slice ada na ca, ver v.a v.b v.c v.p] W' fun e w' => e = .returned (.bool false) ∧ RowKit.Below W'.heap.size W' w') := fun W' h => CR.out W' (step b2 h)
          clear Cx Cy Cz CR b2
          go_wp2_with fail
          refine wp_region_quiet_below mixed (by kernel_rfl) ?_
          go_big_quiet_step (fail)
          go_big_quiet_step (fail)
          go_big_quiet_step (fail)
          go_big_quiet_step (fail)
          go_big_quiet_step (fail)
          go_big_quiet_step (fail)
          go_big_quiet_step (exact Calls.regrown_of (DR.out _ (below_regrown w2 _ _)))
          go_big_quiet_step (fail)
          go_big_quiet_step (fail)
          go_big_quiet_step (fail)
          go_big_quiet_step (fail)
          go_big_quiet_step (fail)
          go_big_quiet_step (fail)
          go_big_quiet_step (fail)
          go_big_quiet_step (exact Calls.regrown_of (Dx.out _ (below_regrown w2 _ _)))
          go_big_quiet_step (fail)
          go_big_quiet_step (fail)
          go_big_quiet_step (fail)
          go_big_quiet_step (fail)
          go_big_quiet_step (fail)
          go_big_quiet_step (fail)
          go_big_quiet_step (fail)
          go_big_quiet_step (fail)
          go_big_quiet_step (fail)
          go_big_quiet_step (fail)
          go_big_quiet_step (fail)
          go_big_quiet_step (fail)
          go_big_quiet_step (exact Calls.regrown_of (Dy.out _ (below_regrown w2 _ _)))
          go_big_quiet_step (fail)
          go_big_quiet_step (fail)
          go_big_quiet_step (fail)
          go_big_quiet_step (fail)
          go_big_quiet_step (fail)
          go_big_quiet_step (fail)
          go_big_quiet_step (fail)
          go_big_quiet_step (fail)
          go_big_quiet_step (fail)
          go_big_quiet_step (fail)
          go_big_quiet_step (fail)
          go_big_quiet_step (fail)
          go_big_quiet_step (fail)
          go_big_quiet_step (fail)
          go_big_quiet_step (fail)
          go_big_quiet_step (exact Calls.regrown_of (Dz.out _ (below_regrown w2 _ _)))
          go_big_quiet_step (fail)
          go_big_quiet_step (fail)
          go_big_quiet_step (fail)
          go_big_quiet_step (fail)
          go_big_quiet_step (fail)
          go_big_quiet_step (fail)
          go_big_quiet_step (fail)
          go_big_quiet_step (fail)
          go_big_quiet_step (fail)
          go_big_quiet_step (fail)
          go_big_quiet_step (fail)
          go_big_quiet_step (fail)
          go_big_quiet_step (fail)
          go_big_quiet_step (fail)
          go_big_quiet_step (fail)
          go_big_quiet_step (fail)
          go_big_quiet_step (fail)
          go_big_quiet_step (fail)
          go_big_quiet_step (fail)
          go_big_quiet_step (fail)
          refine wpQuiet_nil ?_
          intro w3 hw3
          have b3 := regrown_below hw3
          clear hw3 k0 k1 k2 k3 Dx Dy Dz DR
          go_wp2_with fail
          go_roundw
          case rel => exact ⟨k + 1, by omega, by go_num, hide (step BW2.out b3)⟩
          case measure => simp [RowKit.intOf]; omega
        · have Dx : Hid (∀ W', RowKit.Below w2.heap.size w2 W' → Calls Tryz.prog 24 #[.slice adx nx cx, ver v.a v.b v.c v.p] W' fun e w' => e = .returned (.bool false) ∧ RowKit.Below W'.heap.size W' w') := fun W' h => Cx.out W' (step b2 h)
          have Dy : Hid (∀ W', RowKit.Below w2.heap.size w2 W' → Calls Tryz.prog 24 #[.slice ady ny cy, ver v.a v.b v.c v.p] W' fun e w' => e = .returned (.bool true) ∧ RowKit.Below W'.heap.size W' w') := fun W' h => Cy.out W' (step b2 h)
          have Dz : Hid (∀ W', RowKit.Below w2.heap.size w2 W' → Calls Tryz.prog 24 #[.slice adz nz cz, ver v.a v.b v.c v.p] W' fun e w' => e = .returned (.bool true) ∧ RowKit.Below W'.heap.size W' w') := fun W' h => Cz.out W' (step b2 h)
          have DR : Hid (∀ W', RowKit.Below w2.heap.size w2 W' → Calls Tryz.prog 25 #[.slice ada na ca, ver v.a v.b v.c v.p] W' fun e w' => e = .returned (.bool false) ∧ RowKit.Below W'.heap.size W' w') := fun W' h => CR.out W' (step b2 h)
          clear Cx Cy Cz CR b2
          go_wp2_with fail
          refine wp_region_quiet_below mixed (by kernel_rfl) ?_
          go_big_quiet_step (fail)
          go_big_quiet_step (fail)
          go_big_quiet_step (fail)
          go_big_quiet_step (fail)
          go_big_quiet_step (fail)
          go_big_quiet_step (fail)
          go_big_quiet_step (exact Calls.regrown_of (DR.out _ (below_regrown w2 _ _)))
          go_big_quiet_step (fail)
          go_big_quiet_step (fail)
          go_big_quiet_step (fail)
          go_big_quiet_step (fail)
          go_big_quiet_step (fail)
          go_big_quiet_step (fail)
          go_big_quiet_step (fail)
          go_big_quiet_step (exact Calls.regrown_of (Dx.out _ (below_regrown w2 _ _)))
          go_big_quiet_step (fail)
          go_big_quiet_step (fail)
          go_big_quiet_step (fail)
          go_big_quiet_step (fail)
          go_big_quiet_step (fail)
          go_big_quiet_step (fail)
          go_big_quiet_step (fail)
          go_big_quiet_step (fail)
          go_big_quiet_step (fail)
          go_big_quiet_step (fail)
          go_big_quiet_step (fail)
          go_big_quiet_step (fail)
          go_big_quiet_step (exact Calls.regrown_of (Dy.out _ (below_regrown w2 _ _)))
          go_big_quiet_step (fail)
          go_big_quiet_step (fail)
          go_big_quiet_step (fail)
          go_big_quiet_step (fail)
          go_big_quiet_step (fail)
          go_big_quiet_step (fail)
          go_big_quiet_step (fail)
          go_big_quiet_step (fail)
          go_big_quiet_step (fail)
          go_big_quiet_step (fail)
          go_big_quiet_step (fail)
          go_big_quiet_step (fail)
          go_big_quiet_step (fail)
          go_big_quiet_step (fail)
          go_big_quiet_step (fail)
          go_big_quiet_step (exact Calls.regrown_of (Dz.out _ (below_regrown w2 _ _)))
          go_big_quiet_step (fail)
          go_big_quiet_step (fail)
          go_big_quiet_step (fail)
          go_big_quiet_step (fail)
          go_big_quiet_step (fail)
          go_big_quiet_step (fail)
          go_big_quiet_step (fail)
          go_big_quiet_step (fail)
          go_big_quiet_step (fail)
          go_big_quiet_step (fail)
          go_big_quiet_step (fail)
          go_big_quiet_step (fail)
          go_big_quiet_step (fail)
          go_big_quiet_step (fail)
          go_big_quiet_step (fail)
          go_big_quiet_step (fail)
          go_big_quiet_step (fail)
          go_big_quiet_step (fail)
          go_big_quiet_step (fail)
          go_big_quiet_step (fail)
          refine wpQuiet_nil ?_
          intro w3 hw3
          have b3 := regrown_below hw3
          clear hw3 k0 k1 k2 k3 Dx Dy Dz DR
          go_wp2_with fail
          go_roundw
          case rel => exact ⟨k + 1, by omega, by go_num, hide (step BW2.out b3)⟩
          case measure => simp [RowKit.intOf]; omega
      · have Dx : Hid (∀ W', RowKit.Below w2.heap.size w2 W' → Calls Tryz.prog 24 #[.slice adx nx cx, ver v.a v.b v.c v.p] W' fun e w' => e = .returned (.bool false) ∧ RowKit.Below W'.heap.size W' w') := fun W' h => Cx.out W' (step b2 h)
        have Dy : Hid (∀ W', RowKit.Below w2.heap.size w2 W' → Calls Tryz.prog 24 #[.slice ady ny cy, ver v.a v.b v.c v.p] W' fun e w' => e = .returned (.bool true) ∧ RowKit.Below W'.heap.size W' w') := fun W' h => Cy.out W' (step b2 h)
        have Dz : Hid (∀ W', RowKit.Below w2.heap.size w2 W' → Calls Tryz.prog 24 #[.slice adz nz cz, ver v.a v.b v.c v.p] W' fun e w' => e = .returned (.bool true) ∧ RowKit.Below W'.heap.size W' w') := fun W' h => Cz.out W' (step b2 h)
        have DR : Hid (∀ W', RowKit.Below w2.heap.size w2 W' → Calls Tryz.prog 25 #[.slice ada na ca, ver v.a v.b v.c v.p] W' fun e w' => e = .returned (.bool false) ∧ RowKit.Below W'.heap.size W' w') := fun W' h => CR.out W' (step b2 h)
        clear Cx Cy Cz CR b2
        go_wp2_with fail
        refine wp_region_quiet_below mixed (by kernel_rfl) ?_
        go_big_quiet_step (fail)
        go_big_quiet_step (fail)
        go_big_quiet_step (fail)
        go_big_quiet_step (fail)
        go_big_quiet_step (fail)
        go_big_quiet_step (fail)
        go_big_quiet_step (exact Calls.regrown_of (DR.out _ (below_regrown w2 _ _)))
        go_big_quiet_step (fail)
        go_big_quiet_step (fail)
        go_big_quiet_step (fail)
        go_big_quiet_step (fail)
        go_big_quiet_step (fail)
        go_big_quiet_step (fail)
        go_big_quiet_step (fail)
        go_big_quiet_step (exact Calls.regrown_of (Dx.out _ (below_regrown w2 _ _)))
        go_big_quiet_step (fail)
        go_big_quiet_step (fail)
        go_big_quiet_step (fail)
        go_big_quiet_step (fail)
        go_big_quiet_step (fail)
        go_big_quiet_step (fail)
        go_big_quiet_step (fail)
        go_big_quiet_step (fail)
        go_big_quiet_step (fail)
        go_big_quiet_step (fail)
        go_big_quiet_step (fail)
        go_big_quiet_step (fail)
        go_big_quiet_step (exact Calls.regrown_of (Dy.out _ (below_regrown w2 _ _)))
        go_big_quiet_step (fail)
        go_big_quiet_step (fail)
        go_big_quiet_step (fail)
        go_big_quiet_step (fail)
        go_big_quiet_step (fail)
        go_big_quiet_step (fail)
        go_big_quiet_step (fail)
        go_big_quiet_step (fail)
        go_big_quiet_step (fail)
        go_big_quiet_step (fail)
        go_big_quiet_step (fail)
        go_big_quiet_step (fail)
        go_big_quiet_step (fail)
        go_big_quiet_step (fail)
        go_big_quiet_step (fail)
        go_big_quiet_step (exact Calls.regrown_of (Dz.out _ (below_regrown w2 _ _)))
        go_big_quiet_step (fail)
        go_big_quiet_step (fail)
        go_big_quiet_step (fail)
        go_big_quiet_step (fail)
        go_big_quiet_step (fail)
        go_big_quiet_step (fail)
        go_big_quiet_step (fail)
        go_big_quiet_step (fail)
        go_big_quiet_step (fail)
        go_big_quiet_step (fail)
        go_big_quiet_step (fail)
        go_big_quiet_step (fail)
        go_big_quiet_step (fail)
        go_big_quiet_step (fail)
        go_big_quiet_step (fail)
        go_big_quiet_step (fail)
        go_big_quiet_step (fail)
        go_big_quiet_step (fail)
        go_big_quiet_step (fail)
        go_big_quiet_step (fail)
        refine wpQuiet_nil ?_
        intro w3 hw3
        have b3 := regrown_below hw3
        clear hw3 k0 k1 k2 k3 Dx Dy Dz DR
        go_wp2_with fail
        go_roundw
        case rel => exact ⟨k + 1, by omega, by go_num, hide (step BW2.out b3)⟩
        case measure => simp [RowKit.intOf]; omega
      · have Dx : Hid (∀ W', RowKit.Below w2.heap.size w2 W' → Calls Tryz.prog 24 #[.slice adx nx cx, ver v.a v.b v.c v.p] W' fun e w' => e = .returned (.bool false) ∧ RowKit.Below W'.heap.size W' w') := fun W' h => Cx.out W' (step b2 h)
        have Dy : Hid (∀ W', RowKit.Below w2.heap.size w2 W' → Calls Tryz.prog 24 #[.slice ady ny cy, ver v.a v.b v.c v.p] W' fun e w' => e = .returned (.bool true) ∧ RowKit.Below W'.heap.size W' w') := fun W' h => Cy.out W' (step b2 h)
        have Dz : Hid (∀ W', RowKit.Below w2.heap.size w2 W' → Calls Tryz.prog 24 #[.slice adz nz cz, ver v.a v.b v.c v.p] W' fun e w' => e = .returned (.bool false) ∧ RowKit.Below W'.heap.size W' w') := fun W' h => Cz.out W' (step b2 h)
        have DR : Hid (∀ W', RowKit.Below w2.heap.size w2 W' → Calls Tryz.prog 25 #[.slice ada na ca, ver v.a v.b v.c v.p] W' fun e w' => e = .returned (.bool true) ∧ RowKit.Below W'.heap.size W' w') := fun W' h => CR.out W' (step b2 h)
        clear Cx Cy Cz CR b2
        go_wp2_with fail
        refine wp_region_quiet_below mixed (by kernel_rfl) ?_
        go_big_quiet_step (fail)
        go_big_quiet_step (fail)
        go_big_quiet_step (fail)
        go_big_quiet_step (fail)
        go_big_quiet_step (fail)
        go_big_quiet_step (fail)
        go_big_quiet_step (exact Calls.regrown_of (DR.out _ (below_regrown w2 _ _)))
        go_big_quiet_step (fail)
        go_big_quiet_step (fail)
        go_big_quiet_step (fail)
        go_big_quiet_step (fail)
        go_big_quiet_step (fail)
        go_big_quiet_step (fail)
        go_big_quiet_step (fail)
        go_big_quiet_step (exact Calls.regrown_of (Dx.out _ (below_regrown w2 _ _)))
        go_big_quiet_step (fail)
        go_big_quiet_step (fail)
        go_big_quiet_step (fail)
        go_big_quiet_step (fail)
        go_big_quiet_step (fail)
        go_big_quiet_step (fail)
        go_big_quiet_step (fail)
        go_big_quiet_step (fail)
        go_big_quiet_step (fail)
        go_big_quiet_step (fail)
        go_big_quiet_step (fail)
        go_big_quiet_step (fail)
        go_big_quiet_step (exact Calls.regrown_of (Dy.out _ (below_regrown w2 _ _)))
        go_big_quiet_step (fail)
        go_big_quiet_step (fail)
        go_big_quiet_step (fail)
        go_big_quiet_step (fail)
        go_big_quiet_step (fail)
        go_big_quiet_step (fail)
        go_big_quiet_step (fail)
        go_big_quiet_step (fail)
        go_big_quiet_step (fail)
        go_big_quiet_step (fail)
        go_big_quiet_step (fail)
        go_big_quiet_step (fail)
        go_big_quiet_step (fail)
        go_big_quiet_step (fail)
        go_big_quiet_step (fail)
        go_big_quiet_step (exact Calls.regrown_of (Dz.out _ (below_regrown w2 _ _)))
        go_big_quiet_step (fail)
        go_big_quiet_step (fail)
        go_big_quiet_step (fail)
        go_big_quiet_step (fail)
        go_big_quiet_step (fail)
        go_big_quiet_step (fail)
        go_big_quiet_step (fail)
        go_big_quiet_step (fail)
        go_big_quiet_step (fail)
        go_big_quiet_step (fail)
        go_big_quiet_step (fail)
        go_big_quiet_step (fail)
        go_big_quiet_step (fail)
        go_big_quiet_step (fail)
        go_big_quiet_step (fail)
        go_big_quiet_step (fail)
        go_big_quiet_step (fail)
        go_big_quiet_step (fail)
        go_big_quiet_step (fail)
        go_big_quiet_step (fail)
        refine wpQuiet_nil ?_
        intro w3 hw3
        have b3 := regrown_below hw3
        clear hw3 k0 k1 k2 k3 Dx Dy Dz DR
        go_wp2_with fail
        go_roundw
        case rel => exact ⟨k + 1, by omega, by go_num, hide (step BW2.out b3)⟩
        case measure => simp [RowKit.intOf]; omega
      · have Dx : Hid (∀ W', RowKit.Below w2.heap.size w2 W' → Calls Tryz.prog 24 #[.slice adx nx cx, ver v.a v.b v.c v.p] W' fun e w' => e = .returned (.bool true) ∧ RowKit.Below W'.heap.size W' w') := fun W' h => Cx.out W' (step b2 h)
        have Dy : Hid (∀ W', RowKit.Below w2.heap.size w2 W' → Calls Tryz.prog 24 #[.slice ady ny cy, ver v.a v.b v.c v.p] W' fun e w' => e = .returned (.bool true) ∧ RowKit.Below W'.heap.size W' w') := fun W' h => Cy.out W' (step b2 h)
        have Dz : Hid (∀ W', RowKit.Below w2.heap.size w2 W' → Calls Tryz.prog 24 #[.slice adz nz cz, ver v.a v.b v.c v.p] W' fun e w' => e = .returned (.bool false) ∧ RowKit.Below W'.heap.size W' w') := fun W' h => Cz.out W' (step b2 h)
        have DR : Hid (∀ W', RowKit.Below w2.heap.size w2 W' → Calls Tryz.prog 25 #[.slice ada na ca, ver v.a v.b v.c v.p] W' fun e w' => e = .returned (.bool true) ∧ RowKit.Below W'.heap.size W' w') := fun W' h => CR.out W' (step b2 h)
        clear Cx Cy Cz CR b2
        go_wp2_with fail
        refine wp_region_quiet_below mixed (by kernel_rfl) ?_
        go_big_quiet_step (fail)
        go_big_quiet_step (fail)
        go_big_quiet_step (fail)
        go_big_quiet_step (fail)
        go_big_quiet_step (fail)
        go_big_quiet_step (fail)
        go_big_quiet_step (exact Calls.regrown_of (DR.out _ (below_regrown w2 _ _)))
        go_big_quiet_step (fail)
        go_big_quiet_step (fail)
        go_big_quiet_step (fail)
        go_big_quiet_step (fail)
        go_big_quiet_step (fail)
        go_big_quiet_step (fail)
        go_big_quiet_step (fail)
        go_big_quiet_step (exact Calls.regrown_of (Dx.out _ (below_regrown w2 _ _)))
        go_big_quiet_step (fail)
        go_big_quiet_step (fail)
        go_big_quiet_step (fail)
        go_big_quiet_step (fail)
        go_big_quiet_step (fail)
        go_big_quiet_step (fail)
        go_big_quiet_step (fail)
        go_big_quiet_step (fail)
        go_big_quiet_step (fail)
        go_big_quiet_step (fail)
        go_big_quiet_step (fail)
        go_big_quiet_step (fail)
        go_big_quiet_step (exact Calls.regrown_of (Dy.out _ (below_regrown w2 _ _)))
        go_big_quiet_step (fail)
        go_big_quiet_step (fail)
        go_big_quiet_step (fail)
        go_big_quiet_step (fail)
        go_big_quiet_step (fail)
        go_big_quiet_step (fail)
        go_big_quiet_step (fail)
        go_big_quiet_step (fail)
        go_big_quiet_step (fail)
        go_big_quiet_step (fail)
        go_big_quiet_step (fail)
        go_big_quiet_step (fail)
        go_big_quiet_step (fail)
        go_big_quiet_step (fail)
        go_big_quiet_step (fail)
        go_big_quiet_step (exact Calls.regrown_of (Dz.out _ (below_regrown w2 _ _)))
        go_big_quiet_step (fail)
        go_big_quiet_step (fail)
        go_big_quiet_step (fail)
        go_big_quiet_step (fail)
        go_big_quiet_step (fail)
        go_big_quiet_step (fail)
        go_big_quiet_step (fail)
        go_big_quiet_step (fail)
        go_big_quiet_step (fail)
        go_big_quiet_step (fail)
        go_big_quiet_step (fail)
        go_big_quiet_step (fail)
        go_big_quiet_step (fail)
        go_big_quiet_step (fail)
        go_big_quiet_step (fail)
        go_big_quiet_step (fail)
        go_big_quiet_step (fail)
        go_big_quiet_step (fail)
        go_big_quiet_step (fail)
        go_big_quiet_step (fail)
        refine wpQuiet_nil ?_
        intro w3 hw3
        have b3 := regrown_below hw3
        clear hw3 k0 k1 k2 k3 Dx Dy Dz DR
        go_wp2_with fail
        go_roundw
        case rel => exact ⟨k + 1, by omega, by go_num, hide (step BW2.out b3)⟩
        case measure => simp [RowKit.intOf]; omega
    · have hd : decide ((k : Int) < (np : Int)) = false := by simp; omega
      go_wp2_with fail
      go_ret
      exact ⟨rfl, step B.out BW.out⟩
end Go.Proofs.YtohnlhfgajipgaaGreatDoor.spanOps
