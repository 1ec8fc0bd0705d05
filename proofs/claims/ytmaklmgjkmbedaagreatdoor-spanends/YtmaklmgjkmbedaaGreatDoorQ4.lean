/-
  Contracts of the third law's Raw, Make.
-/
import Derived.Test.YtmaklmgjkmbedaaGreatDoorQ3
import Derived.Test.YtmaklmgjkmbedaaGreatDoorQ0
import Derived.Test.YtmaklmgjkmbedaaGreatDoorM24
import Derived.Test.YtmaklmgjkmbedaaGreatDoorN10
import Derived.Test.YtmaklmgjkmbedaaGreatDoorK1
namespace Go.Proofs.YtmaklmgjkmbedaaGreatDoor
set_option linter.unusedSimpArgs false
set_option linter.unusedVariables false
open Go.RowKit Go.Vr Go.Sort Go.Tx Go.Lib
attribute [local go_sem] setCellDrewN allocDrewN

theorem ERow.newP (w : World) (x : Pt) (T : TypeId) (n : Nat) (h : n = w.heap.size) : ERow EP (w.alloc (.cells x.row.toArray T)) (some ⟨n, 0, .none⟩) 1 [x] := by subst h; exact ERow.new EP w x T
theorem okp_app {ps : List Pt} {v u : V} {x y z : Bool} (h : ∀ q ∈ ps, okPt q) (hv : v.ok = true) (hu : u.ok = true) : ∀ q ∈ ps ++ [⟨v.a, v.b, v.c, v.p, u.a, u.b, u.c, u.p, x, y, z⟩], okPt q := by
  intro q hq
  rcases List.mem_append.1 hq with hq | hq
  · exact h q hq
  · rw [List.mem_singleton.1 hq]; exact ⟨hv, hu⟩

set_option maxHeartbeats 8000000 in
set_option maxRecDepth 100000 in
theorem raw_any (a : Option Addr) (n cap : Nat) (zs : List Int) (w : World) (hr : Row .i64 w a n cap zs) :
    Calls Tryz.prog 38 #[.slice a n cap] w fun e w' => ∃ v' ps, e = .returned v' ∧ EOwn EP w' w.heap.size v' ps ∧ (∀ q ∈ ps, okPt q) ∧ ps.length ≤ 6 ∧ RowKit.Below w.heap.size w w' := by
  have HR := hide hr
  clear hr
  have CM : Hid (∀ (x y : Int) (W : World), (-9223372036854775808 ≤ x ∧ x ≤ 9223372036854775807) → (-9223372036854775808 ≤ y ∧ y ≤ 9223372036854775807) → Calls Tryz.prog 32 #[.int .i64 x, .int .i64 y] W fun e w' => ∃ v : V, e = .returned (val v) ∧ v.ok = true ∧ RowKit.Below W.heap.size W w') := fun x y W h1 h2 => make_any x y W h1 h2
  go_enter Tryz.func38, Tryz.ntmps38
  go_wp2_with fail
  go_loopw [3, 4] (fun s i wr => ∃ (k : Nat) (ps : List Pt), k ≤ n ∧ k ≤ 6 ∧ i = .int .i64 k ∧ EOwn EP wr w.heap.size s ps ∧ ps.length ≤ k ∧ RowKit.Below w.heap.size w wr ∧ Hid (∀ q ∈ ps, okPt q)) (fun _ i _ => 6 - (RowKit.intOf i).toNat)
  case atStart => exact ⟨0, [], by omega, by omega, rfl, EOwn.nil _ _, by simp, RowKit.Below.refl _ _, fun _ h => nomatch h⟩
  case round =>
    obtain ⟨k, ps, hk, hk6, rfl, o1, hpl, hB, HOK⟩ := hrel
    have HO1 := hide o1
    have HB := hide hB
    have HPL := hide hpl
    clear o1 hB hpl
    by_cases hlt : k < n
    · have d1 : decide ((k : Int) < (n : Int)) = true := by simp; omega
      by_cases h6 : k < 6
      · have d2 : decide ((k : Int) < 6) = true := by simp; omega
        have hrl := HR.out.later HB.out
        have hn := HR.out.n
        cases a with
        | none => have := HR.out.nil rfl; omega
        | some x =>
          obtain ⟨b, off, spot⟩ := x
          have hspot : spot = none := by simpa [Addr.add] using World.cell?_spot (hrl.cell _ rfl 0 (by omega))
          subst hspot
          have hc := hrl.cell _ rfl k hlt
          rw [addr_add] at hc
          have hz := bd64 (hrl.wf (zs.getD k 0) (by rw [List.getD_eq_getElem?_getD, List.getElem?_eq_getElem (by omega)]; exact List.getElem_mem _))
          generalize zs.getD k 0 = z at *
          obtain ⟨z1, z2⟩ := hz
          have i1 : (0 : Int) ≤ (k : Int) := by omega
          have i2 : (k : Int) < (n : Int) := by omega
          have CW : Hid (∀ W, Calls Tryz.prog 29 #[.int .i64 z, .int .i64 1125899906842624] W fun e w' => ∃ j : Nat, e = .returned (.int .i64 j) ∧ (j : Int) < 1125899906842624 ∧ Hid ((j : Int) = z % 1125899906842624) ∧ w' = W) := fun W => within3 z 1125899906842624 W (by omega) (by omega) z1 z2
          clear hrl z1 z2
          go_wp2_with fail
          refine (CW.out _).mono ?_
          rintro e w1 ⟨j, rfl, hj, -, rfl⟩
          have j0 : (0 : Int) ≤ (j : Int) := by omega
          generalize (j : Int) = J at *
          have e7 : (0 : Int) ≤ J / 7 ∧ J / 7 ≤ 1125899906842624 := by omega
          have e11 : (0 : Int) ≤ J / 11 ∧ J / 11 ≤ 1125899906842624 := by omega
          have e13 : (0 : Int) ≤ J / 13 ∧ J / 13 ≤ 1125899906842624 := by omega
          clear CW hc
          go_wp2_with fail
          refine (CM.out _ _ _ (by omega) (by omega)).mono ?_
          rintro e w2 ⟨v0, rfl, ok0, b2⟩
          go_wp2_with fail
          refine (CM.out _ _ _ (by omega) (by omega)).mono ?_
          rintro e w3 ⟨v1, rfl, ok1, b3⟩
          have HB3 := hide (step (step HB.out b2) b3)
          have HO3 := hide ((HO1.out.later b2).later b3)
          have HV := hide (And.intro ok0 ok1)
          clear HO1 HB b2 b3 ok0 ok1 e7 e11 e13
          go_upto_if 46 with fail
          generalize (J % 2 == 0) = x at *
          generalize (J / 2 % 2 == 0) = y at *
          generalize (J / 4 % 7 == 0) = zz at *
          generalize (J / 28 % 4 == 0) = sw at *
          cases sw with
          | true =>
            go_wp2_with (refine wpList_eapp EP rfl _ _ rfl w.heap.size _ ps (some _) 1 1 [⟨v0.a, v0.b, v0.c, v0.p, v0.a, v0.b, v0.c, v0.p, x, y, zz⟩] rfl rfl (HO3.out.later (by repeat (first | with_reducible assumption | with_reducible exact Below.refl _ _ | with_reducible refine Below.setCell ?_ (by first | exact Nat.le_refl _ | (simp; done) | (simp; omega)) _ | with_reducible refine bal ?_ _ | with_reducible refine Below.alloc ?_ (by first | exact Nat.le_refl _ | (simp; done) | (simp; omega)) _ | with_reducible refine Below.drew ?_))) (ERow.newP _ ⟨v0.a, v0.b, v0.c, v0.p, v0.a, v0.b, v0.c, v0.p, x, y, zz⟩ _ _ (by simp)) (by have := HPL.out; simp; omega) (by have := HB3.out.size; simp; omega) ?_; intro v4 w4 o4 g4 t4)
            go_roundw
            case rel => exact ⟨k + 1, ps ++ [⟨v0.a, v0.b, v0.c, v0.p, v0.a, v0.b, v0.c, v0.p, x, y, zz⟩], by omega, by omega, by go_num, o4, (by have := HPL.out; simp; omega), own_bel (step HB3.out ((by repeat (first | with_reducible assumption | with_reducible exact Below.refl _ _ | with_reducible refine Below.setCell ?_ (by first | exact Nat.le_refl _ | (simp; done) | (simp; omega)) _ | with_reducible refine bal ?_ _ | with_reducible refine Below.alloc ?_ (by first | exact Nat.le_refl _ | (simp; done) | (simp; omega)) _ | with_reducible refine Below.drew ?_)))) (HO3.out.later (by repeat (first | with_reducible assumption | with_reducible exact Below.refl _ _ | with_reducible refine Below.setCell ?_ (by first | exact Nat.le_refl _ | (simp; done) | (simp; omega)) _ | with_reducible refine bal ?_ _ | with_reducible refine Below.alloc ?_ (by first | exact Nat.le_refl _ | (simp; done) | (simp; omega)) _ | with_reducible refine Below.drew ?_))) g4 (by have := HB3.out.size; simp; omega), hide (okp_app HOK.out HV.out.1 HV.out.1)⟩
            case measure => simp [RowKit.intOf]; omega
          | false =>
            go_wp2_with (refine wpList_eapp EP rfl _ _ rfl w.heap.size _ ps (some _) 1 1 [⟨v0.a, v0.b, v0.c, v0.p, v1.a, v1.b, v1.c, v1.p, x, y, zz⟩] rfl rfl (HO3.out.later (by repeat (first | with_reducible assumption | with_reducible exact Below.refl _ _ | with_reducible refine Below.setCell ?_ (by first | exact Nat.le_refl _ | (simp; done) | (simp; omega)) _ | with_reducible refine bal ?_ _ | with_reducible refine Below.alloc ?_ (by first | exact Nat.le_refl _ | (simp; done) | (simp; omega)) _ | with_reducible refine Below.drew ?_))) (ERow.newP _ ⟨v0.a, v0.b, v0.c, v0.p, v1.a, v1.b, v1.c, v1.p, x, y, zz⟩ _ _ (by simp)) (by have := HPL.out; simp; omega) (by have := HB3.out.size; simp; omega) ?_; intro v4 w4 o4 g4 t4)
            go_roundw
            case rel => exact ⟨k + 1, ps ++ [⟨v0.a, v0.b, v0.c, v0.p, v1.a, v1.b, v1.c, v1.p, x, y, zz⟩], by omega, by omega, by go_num, o4, (by have := HPL.out; simp; omega), own_bel (step HB3.out ((by repeat (first | with_reducible assumption | with_reducible exact Below.refl _ _ | with_reducible refine Below.setCell ?_ (by first | exact Nat.le_refl _ | (simp; done) | (simp; omega)) _ | with_reducible refine bal ?_ _ | with_reducible refine Below.alloc ?_ (by first | exact Nat.le_refl _ | (simp; done) | (simp; omega)) _ | with_reducible refine Below.drew ?_)))) (HO3.out.later (by repeat (first | with_reducible assumption | with_reducible exact Below.refl _ _ | with_reducible refine Below.setCell ?_ (by first | exact Nat.le_refl _ | (simp; done) | (simp; omega)) _ | with_reducible refine bal ?_ _ | with_reducible refine Below.alloc ?_ (by first | exact Nat.le_refl _ | (simp; done) | (simp; omega)) _ | with_reducible refine Below.drew ?_))) g4 (by have := HB3.out.size; simp; omega), hide (okp_app HOK.out HV.out.1 HV.out.2)⟩
            case measure => simp [RowKit.intOf]; omega
      · have d2 : decide ((k : Int) < 6) = false := by simp; omega
        go_wp2_with fail
        go_ret
        exact ⟨_, ps, rfl, HO1.out, HOK.out, by have := HPL.out; omega, HB.out⟩
    · have d1 : decide ((k : Int) < (n : Int)) = false := by simp; omega
      go_wp2_with fail
      go_ret
      exact ⟨_, ps, rfl, HO1.out, HOK.out, by have := HPL.out; omega, HB.out⟩

set_option maxHeartbeats 1000000 in
theorem mk3_any (a : Option Addr) (n cap : Nat) (zs : List Int) (w : World) (hr : Row .i64 w a n cap zs) :
    Calls Tryz.prog 15 #[.slice a n cap] w fun e w' => ∃ v' l, e = .returned v' ∧ EOwn ES w' w.heap.size v' l ∧ Sp.Row l ∧ l.length ≤ 7 ∧ RowKit.Below w.heap.size w w' := by
  have CR := hide (raw_any a n cap zs w hr)
  clear hr
  go_enter Tryz.func15, Tryz.ntmps15
  go_wp2_with fail
  refine CR.out.mono ?_
  rintro e w1 ⟨v1, ps, rfl, o1, ok1, hl, b1⟩
  obtain ⟨ad, cp, rfl, _, _, r1⟩ := o1.any
  have CN := hide (rnorm_any ad ps.length cp ps w1 r1 (by omega) ok1)
  have hnl : (Sp.nrm (ps.map pS)).length ≤ 7 := by have := nrm_len (ps.map pS); rw [List.length_map] at this; omega
  have hrw : Sp.Row (Sp.nrm (ps.map pS)) := Sp.Row.nrm (by
    intro s hs
    obtain ⟨q, hq, rfl⟩ := List.mem_map.1 hs
    exact pS_ok (ok1 q hq))
  have HNL := hide hnl
  have HRW := hide hrw
  have hb1 := hide b1
  clear CR o1 r1 ok1 hl hnl hrw b1
  generalize ps.length = m at *
  generalize Sp.nrm (ps.map pS) = l at *
  go_wp2_with fail
  refine CN.out.mono ?_
  rintro e w2 ⟨v2, rfl, o2, b2⟩
  clear CN
  go_wp2_with fail
  go_ret
  exact ⟨_, l, rfl, o2.base hb1.out.size, HRW.out, HNL.out, step hb1.out b2⟩
end Go.Proofs.YtmaklmgjkmbedaaGreatDoor
