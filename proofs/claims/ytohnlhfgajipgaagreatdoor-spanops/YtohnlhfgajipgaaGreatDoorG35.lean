/-
  Contracts of the third law's Raw, Make, with the very spans that they answer.
  span's operations once more: what they answer is a row of their own; three rows at once; slices of versions.
-/
import Derived.Test.YtohnlhfgajipgaaGreatDoorG31
import Derived.Test.YtohnlhfgajipgaaGreatDoorG34

namespace Go.Proofs.YtohnlhfgajipgaaGreatDoor
set_option linter.unusedSimpArgs false
set_option linter.unusedVariables false
open Go.RowKit Go.Vr Go.Sort Go.Tx Go.Lib
attribute [local go_sem] setCellDrewN allocDrewN

def rawAt (J : Int) (v u : V) : Pt := ⟨v.a, v.b, v.c, v.p, (if (J / 28 % 4 == 0) = true then v else u).a, (if (J / 28 % 4 == 0) = true then v else u).b, (if (J / 28 % 4 == 0) = true then v else u).c, (if (J / 28 % 4 == 0) = true then v else u).p, J % 2 == 0, J / 2 % 2 == 0, J / 4 % 7 == 0⟩
/-- A number's span, as it comes. -/
def rawPt (z : Int) : Pt := rawAt (z % 1125899906842624) (mkV (z % 1125899906842624) (z % 1125899906842624 / 7)) (mkV (z % 1125899906842624 / 11) (z % 1125899906842624 / 13))
/-- The numbers' spans, normed. -/
def mkL (zs : List Int) : List Sp.S := Sp.nrm (((zs.take 6).map rawPt).map pS)

set_option maxHeartbeats 8000000 in
set_option maxRecDepth 100000 in
theorem raw_is (a : Option Addr) (n cap : Nat) (zs : List Int) (w : World) (hr : Row .i64 w a n cap zs) :
    Calls Tryz.prog 38 #[.slice a n cap] w fun e w' => ∃ v' ps, e = .returned v' ∧ EOwn EP w' w.heap.size v' ps ∧ (∀ q ∈ ps, okPt q) ∧ ps.length ≤ 6 ∧ RowKit.Below w.heap.size w w' ∧ Hid (ps = (zs.take 6).map rawPt) := by
  have HR := hide hr
  clear hr
  have CM : Hid (∀ (x y : Int) (W : World), (-9223372036854775808 ≤ x ∧ x ≤ 9223372036854775807) → (-9223372036854775808 ≤ y ∧ y ≤ 9223372036854775807) → Calls Tryz.prog 32 #[.int .i64 x, .int .i64 y] W fun e w' => e = .returned (val (mkV x y)) ∧ (mkV x y).ok = true ∧ RowKit.Below W.heap.size W w') := fun x y W h1 h2 => make_is x y W h1 h2
  go_enter Tryz.func38, Tryz.ntmps38
  go_wp2_with fail
  go_loopw [3, 4] (fun s i wr => ∃ (k : Nat) (ps : List Pt), k ≤ n ∧ k ≤ 6 ∧ i = .int .i64 k ∧ EOwn EP wr w.heap.size s ps ∧ ps.length ≤ k ∧ RowKit.Below w.heap.size w wr ∧ Hid (∀ q ∈ ps, okPt q) ∧ Hid (ps = (zs.take k).map rawPt)) (fun _ i _ => 6 - (RowKit.intOf i).toNat)
  case atStart => exact ⟨0, [], by omega, by omega, rfl, EOwn.nil _ _, by simp, RowKit.Below.refl _ _, (fun _ h => nomatch h), hide rfl⟩
  case round =>
    obtain ⟨k, ps, hk, hk6, rfl, o1, hpl, hB, HOK, HPS⟩ := hrel
    have HO1 := hide o1
    have HB := hide hB
    have HPL := hide hpl
    clear o1 hB hpl
    by_cases hlt : k < n
    · have d1 : decide ((k : Int) < (n : Int)) = true := by simp; omega
      by_cases h6 : k < 6
      · have d2 : decide ((k : Int) < 6) = true := by simp; omega
        have hrl := HR.out.later HB.out
        have hn := HR.out.n
        cases a with
        | none => have := HR.out.nil rfl; omega
        | some x =>
          obtain ⟨b, off, spot⟩ := x
          have hspot : spot = none := by simpa [Addr.add] using World.cell?_spot (hrl.cell _ rfl 0 (by omega))
          subst hspot
          have hc := hrl.cell _ rfl k hlt
          rw [addr_add] at hc
          have hz := bd64 (hrl.wf (zs.getD k 0) (by rw [List.getD_eq_getElem?_getD, List.getElem?_eq_getElem (by omega)]; exact List.getElem_mem _))
          have HTK : Hid ((zs.take (k + 1)).map rawPt = (zs.take k).map rawPt ++ [rawPt (zs.getD k 0)]) := by
            show _ = _
            rw [List.take_succ_eq_append_getElem (by omega), List.map_append, List.getD_eq_getElem?_getD, List.getElem?_eq_getElem (by omega)]
            rfl
          generalize zs.getD k 0 = z at *
          obtain ⟨z1, z2⟩ := hz
          have i1 : (0 : Int) ≤ (k : Int) := by omega
          have i2 : (k : Int) < (n : Int) := by omega
          have CW : Hid (∀ W, Calls Tryz.prog 29 #[.int .i64 z, .int .i64 1125899906842624] W fun e w' => ∃ j : Nat, e = .returned (.int .i64 j) ∧ (j : Int) < 1125899906842624 ∧ Hid ((j : Int) = z % 1125899906842624) ∧ w' = W) := fun W => within3 z 1125899906842624 W (by omega) (by omega) z1 z2
          clear hrl z1 z2
          go_wp2_with fail
          refine (CW.out _).mono ?_
          rintro e w1 ⟨j, rfl, hj, HJ, rfl⟩
          have j0 : (0 : Int) ≤ (j : Int) := by omega
          generalize (j : Int) = J at *
          have HPT : Hid (rawPt z = rawAt J (mkV J (J / 7)) (mkV (J / 11) (J / 13))) := by show _ = _; rw [HJ.out]; rfl
          unfold rawAt at HPT
          clear HJ
          have e7 : (0 : Int) ≤ J / 7 ∧ J / 7 ≤ 1125899906842624 := by omega
          have e11 : (0 : Int) ≤ J / 11 ∧ J / 11 ≤ 1125899906842624 := by omega
          have e13 : (0 : Int) ≤ J / 13 ∧ J / 13 ≤ 1125899906842624 := by omega
          clear CW hc
          go_wp2_with fail
          refine (CM.out _ _ _ (by omega) (by omega)).mono ?_
          rintro e w2 ⟨rfl, ok0, b2⟩
          generalize mkV J (J / 7) = v0 at *
          go_wp2_with fail
          refine (CM.out _ _ _ (by omega) (by omega)).mono ?_
          rintro e w3 ⟨rfl, ok1, b3⟩
          generalize mkV (J / 11) (J / 13) = v1 at *
          have HB3 := hide (step (step HB.out b2) b3)
          have HO3 := hide ((HO1.out.later b2).later b3)
          have HV := hide (And.intro ok0 ok1)
          clear HO1 HB b2 b3 ok0 ok1 e7 e11 e13
          go_upto_if 46 with fail
          generalize (J % 2 == 0) = x at *
          generalize (J / 2 % 2 == 0) = y at *
          generalize (J / 4 % 7 == 0) = zz at *
          generalize (J / 28 % 4 == 0) = sw at *
          cases sw with
          | true =>
            rw [if_pos rfl] at HPT
            have HPQ := hide (by have h := HTK.out; rw [HPT.out, ← HPS.out] at h; exact h.symm)
            go_wp2_with (refine wpList_eapp EP rfl _ _ rfl w.heap.size _ ps (some _) 1 1 [⟨v0.a, v0.b, v0.c, v0.p, v0.a, v0.b, v0.c, v0.p, x, y, zz⟩] rfl rfl (HO3.out.later (by repeat (first | with_reducible assumption | with_reducible exact Below.refl _ _ | with_reducible refine Below.setCell ?_ (by first | exact Nat.le_refl _ | (simp; done) | (simp; omega)) _ | with_reducible refine bal ?_ _ | with_reducible refine Below.alloc ?_ (by first | exact Nat.le_refl _ | (simp; done) | (simp; omega)) _ | with_reducible refine Below.drew ?_))) (ERow.newP _ ⟨v0.a, v0.b, v0.c, v0.p, v0.a, v0.b, v0.c, v0.p, x, y, zz⟩ _ _ (by simp)) (by have := HPL.out; simp; omega) (by have := HB3.out.size; simp; omega) ?_; intro v4 w4 o4 g4 t4)
            go_roundw
            case rel => exact ⟨k + 1, ps ++ [⟨v0.a, v0.b, v0.c, v0.p, v0.a, v0.b, v0.c, v0.p, x, y, zz⟩], by omega, by omega, by go_num, o4, (by have := HPL.out; simp; omega), own_bel (step HB3.out ((by repeat (first | with_reducible assumption | with_reducible exact Below.refl _ _ | with_reducible refine Below.setCell ?_ (by first | exact Nat.le_refl _ | (simp; done) | (simp; omega)) _ | with_reducible refine bal ?_ _ | with_reducible refine Below.alloc ?_ (by first | exact Nat.le_refl _ | (simp; done) | (simp; omega)) _ | with_reducible refine Below.drew ?_)))) (HO3.out.later (by repeat (first | with_reducible assumption | with_reducible exact Below.refl _ _ | with_reducible refine Below.setCell ?_ (by first | exact Nat.le_refl _ | (simp; done) | (simp; omega)) _ | with_reducible refine bal ?_ _ | with_reducible refine Below.alloc ?_ (by first | exact Nat.le_refl _ | (simp; done) | (simp; omega)) _ | with_reducible refine Below.drew ?_))) g4 (by have := HB3.out.size; simp; omega), hide (okp_app HOK.out HV.out.1 HV.out.1), HPQ⟩
            case measure => simp [RowKit.intOf]; omega
          | false =>
            rw [if_neg Bool.false_ne_true] at HPT
            have HPQ := hide (by have h := HTK.out; rw [HPT.out, ← HPS.out] at h; exact h.symm)
            go_wp2_with (refine wpList_eapp EP rfl _ _ rfl w.heap.size _ ps (some _) 1 1 [⟨v0.a, v0.b, v0.c, v0.p, v1.a, v1.b, v1.c, v1.p, x, y, zz⟩] rfl rfl (HO3.out.later (by repeat (first | with_reducible assumption | with_reducible exact Below.refl _ _ | with_reducible refine Below.setCell ?_ (by first | exact Nat.le_refl _ | (simp; done) | (simp; omega)) _ | with_reducible refine bal ?_ _ | with_reducible refine Below.alloc ?_ (by first | exact Nat.le_refl _ | (simp; done) | (simp; omega)) _ | with_reducible refine Below.drew ?_))) (ERow.newP _ ⟨v0.a, v0.b, v0.c, v0.p, v1.a, v1.b, v1.c, v1.p, x, y, zz⟩ _ _ (by simp)) (by have := HPL.out; simp; omega) (by have := HB3.out.size; simp; omega) ?_; intro v4 w4 o4 g4 t4)
            go_roundw
            case rel => exact ⟨k + 1, ps ++ [⟨v0.a, v0.b, v0.c, v0.p, v1.a, v1.b, v1.c, v1.p, x, y, zz⟩], by omega, by omega, by go_num, o4, (by have := HPL.out; simp; omega), own_bel (step HB3.out ((by repeat (first | with_reducible assumption | with_reducible exact Below.refl _ _ | with_reducible refine Below.setCell ?_ (by first | exact Nat.le_refl _ | (simp; done) | (simp; omega)) _ | with_reducible refine bal ?_ _ | with_reducible refine Below.alloc ?_ (by first | exact Nat.le_refl _ | (simp; done) | (simp; omega)) _ | with_reducible refine Below.drew ?_)))) (HO3.out.later (by repeat (first | with_reducible assumption | with_reducible exact Below.refl _ _ | with_reducible refine Below.setCell ?_ (by first | exact Nat.le_refl _ | (simp; done) | (simp; omega)) _ | with_reducible refine bal ?_ _ | with_reducible refine Below.alloc ?_ (by first | exact Nat.le_refl _ | (simp; done) | (simp; omega)) _ | with_reducible refine Below.drew ?_))) g4 (by have := HB3.out.size; simp; omega), hide (okp_app HOK.out HV.out.1 HV.out.2), HPQ⟩
            case measure => simp [RowKit.intOf]; omega
      · have d2 : decide ((k : Int) < 6) = false := by simp; omega
        go_wp2_with fail
        go_ret
        exact ⟨_, ps, rfl, HO1.out, HOK.out, by have := HPL.out; omega, HB.out, by have h := HPS.out; rw [show k = 6 by omega] at h; exact hide h⟩
    · have d1 : decide ((k : Int) < (n : Int)) = false := by simp; omega
      go_wp2_with fail
      go_ret
      exact ⟨_, ps, rfl, HO1.out, HOK.out, by have := HPL.out; omega, HB.out, by have h := HPS.out; rw [List.take_of_length_le (by have := HR.out.n; omega)] at h; rw [List.take_of_length_le (by have := HR.out.n; omega)]; exact hide h⟩

set_option maxHeartbeats 1000000 in
theorem mk3_is (a : Option Addr) (n cap : Nat) (zs : List Int) (w : World) (hr : Row .i64 w a n cap zs) :
    Calls Tryz.prog 15 #[.slice a n cap] w fun e w' => ∃ v', e = .returned v' ∧ EOwn ES w' w.heap.size v' (mkL zs) ∧ Sp.Row (mkL zs) ∧ (mkL zs).length ≤ 7 ∧ RowKit.Below w.heap.size w w' := by
  have CR := hide (raw_is a n cap zs w hr)
  clear hr
  go_enter Tryz.func15, Tryz.ntmps15
  go_wp2_with fail
  refine CR.out.mono ?_
  rintro e w1 ⟨v1, ps, rfl, o1, ok1, hl, b1, HPS⟩
  obtain ⟨ad, cp, rfl, _, _, r1⟩ := o1.any
  have CN := hide (rnorm_any ad ps.length cp ps w1 r1 (by omega) ok1)
  have hnl : (Sp.nrm (ps.map pS)).length ≤ 7 := by have := nrm_len (ps.map pS); rw [List.length_map] at this; omega
  have hrw : Sp.Row (Sp.nrm (ps.map pS)) := Sp.Row.nrm (by
    intro s hs
    obtain ⟨q, hq, rfl⟩ := List.mem_map.1 hs
    exact pS_ok (ok1 q hq))
  have HML : Hid (Sp.nrm (ps.map pS) = mkL zs) := by show _ = _; unfold mkL; rw [← HPS.out]
  have HNL := hide hnl
  have HRW := hide hrw
  have hb1 := hide b1
  clear CR o1 r1 ok1 hl hnl hrw b1
  generalize ps.length = m at *
  generalize Sp.nrm (ps.map pS) = l at *
  go_wp2_with fail
  refine CN.out.mono ?_
  rintro e w2 ⟨v2, rfl, o2, b2⟩
  clear CN
  go_wp2_with fail
  go_ret
  have e := HML.out
  subst e
  exact ⟨_, rfl, o2.base hb1.out.size, HRW.out, HNL.out, step hb1.out b2⟩
end Go.Proofs.YtohnlhfgajipgaaGreatDoor

namespace Go.Proofs.YtohnlhfgajipgaaGreatDoor
set_option linter.unusedSimpArgs false
set_option linter.unusedVariables false
open Go.RowKit Go.Vr Go.Sort Go.Tx Go.Lib
attribute [local go_sem] setCellDrewN allocDrewN

theorem mk_is_sl (a : Option Addr) (n cap : Nat) (zs : List Int) (w : World) (hr : Row .i64 w a n cap zs) :
    Calls Tryz.prog 15 #[.slice a n cap] w fun e w' => ∃ ad m cp, e = .returned (.slice ad m cp) ∧ SR w' ad m (mkL zs) 7 ∧ RowKit.Below w.heap.size w w' := by
  refine (mk3_is a n cap zs w hr).mono ?_
  rintro e w' ⟨v', rfl, o, hrw, hl, hb⟩
  obtain ⟨ad, m, cp, rfl, h⟩ := SR.of o hrw hl
  exact ⟨ad, m, cp, rfl, h, hb⟩
theorem or3_sl (W : World) (he : Env W) (ad ad' ad2 : Option Addr) (n n' n2 cp cp' cp2 : Nat) (l k m : List Sp.S) (B B' B2 : Nat) (h : SR W ad n l B) (h' : SR W ad' n' k B') (h2 : SR W ad2 n2 m B2) (hB : B ≤ 1000) (hB' : B' ≤ 1000) (hB2 : B2 ≤ 1000) :
    Calls Tryz.prog 17 #[.slice (some ⟨W.heap.size, 0, none⟩) 3 3] (W.alloc (.cells #[.slice ad n cp, .slice ad' n' cp', .slice ad2 n2 cp2] 24)) fun e w' => ∃ a2 n2 c2, e = .returned (.slice a2 n2 c2) ∧ SR w' a2 n2 (Sp.nrm [l, k, m].flatten) (B + B' + B2 + 1) ∧ RowKit.Below W.heap.size W w' := by
  have hle := h.le
  have hle' := h'.le
  have hle2 := h2.le
  have hn := h.r.n
  have hn' := h'.r.n
  have hn2 := h2.r.n
  have hb0 : RowKit.Below W.heap.size W (W.alloc (.cells #[.slice ad n cp, .slice ad' n' cp', .slice ad2 n2 cp2] 24)) := (by repeat (first | with_reducible assumption | with_reducible exact Below.refl _ _ | with_reducible refine Below.setCell ?_ (by first | exact Nat.le_refl _ | (simp; done) | (simp; omega)) _ | with_reducible refine bal ?_ _ | with_reducible refine Below.alloc ?_ (by first | exact Nat.le_refl _ | (simp; done) | (simp; omega)) _ | with_reducible refine Below.drew ?_))
  have hrr := rrow3 (a := ⟨ad, n, cp⟩) (b := ⟨ad', n', cp'⟩) (c := ⟨ad2, n2, cp2⟩) 24 h.r h'.r h2.r
  have hfl : [l, k, m].flatten.length = l.length + k.length + m.length := by simp; omega
  have hok := Sp.ok_three h.row.ok h'.row.ok h2.row.ok
  refine (sor_any (some ⟨W.heap.size, 0, none⟩) 3 3 [l, k, m] _ hrr (by omega) (by omega) hok (he.later hb0)).mono ?_
  rintro e w' ⟨v', rfl, o, hb⟩
  obtain ⟨a2, n2, c2, rfl, h2⟩ := SR.of (B := B + B' + B2 + 1) o (Sp.Row.nrm hok) (by have := nrm_len [l, k, m].flatten; omega)
  exact ⟨a2, n2, c2, rfl, h2, step hb0 hb⟩

/-- A row of spans that nobody else has. -/
def Mine (w : World) (B : Nat) (v : Value) : Prop := ∃ ad n cp xs, v = .slice ad n cp ∧ n ≤ 2000 ∧ w.ownsRow B 57 11 v n xs
theorem Mine.of {w : World} {B : Nat} {v : Value} {l : List Sp.S} (h : EOwn ES w B v l) (hl : l.length ≤ 2000) : Mine w B v := by
  obtain ⟨ad, cp, rfl, _, _, _⟩ := h.any
  exact ⟨ad, l.length, cp, _, rfl, hl, h⟩
theorem not_ow (W : World) (he : Env W) (ad : Option Addr) (n cp : Nat) (l : List Sp.S) (B : Nat) (h : SR W ad n l B) (hB : B ≤ 500) :
    Calls Tryz.prog 18 #[.slice ad n cp] W fun e w' => ∃ a2 n2 c2, e = .returned (.slice a2 n2 c2) ∧ Mine w' W.heap.size (.slice a2 n2 c2) ∧ RowKit.Below W.heap.size W w' := by
  have hle := h.le
  have hn := h.r.n
  refine (not_any ad n cp l W h.r (by omega) h.row.ok he).mono ?_
  rintro e w' ⟨v', rfl, o, hb⟩
  obtain ⟨a2, c2, rfl, _, _, _⟩ := o.any
  exact ⟨a2, _, c2, rfl, Mine.of o (by have := not_len l; omega), hb⟩
theorem and_ow (W : World) (he : Env W) (ad ad' : Option Addr) (n n' cp cp' : Nat) (l k : List Sp.S) (B B' : Nat) (h : SR W ad n l B) (h' : SR W ad' n' k B') (hB : B ≤ 500) (hB' : B' ≤ 500) :
    Calls Tryz.prog 16 #[.slice ad n cp, .slice ad' n' cp'] W fun e w' => ∃ a2 n2 c2, e = .returned (.slice a2 n2 c2) ∧ Mine w' W.heap.size (.slice a2 n2 c2) ∧ RowKit.Below W.heap.size W w' := by
  have hle := h.le
  have hle' := h'.le
  have hn := h.r.n
  have hn' := h'.r.n
  refine (and_any ad ad' n n' cp cp' l k W h.r h'.r (by omega) h.row.ok h'.row.ok he).mono ?_
  rintro e w' ⟨v', rfl, o, hb⟩
  have hlen : (Sp.allL [l, k]).length ≤ 2000 := by
    unfold Sp.allL
    have h1 := not_len (Sp.nrm ([l, k].flatMap Sp.notL))
    have h2 := nrm_len ([l, k].flatMap Sp.notL)
    have h3 : ([l, k].flatMap Sp.notL).length ≤ l.length + 1 + (k.length + 1) := by
      have e1 := not_len l
      have e2 := not_len k
      simp only [List.flatMap_cons, List.flatMap_nil, List.append_nil, List.length_append]
      omega
    omega
  obtain ⟨a2, c2, rfl, _, _, _⟩ := o.any
  exact ⟨a2, _, c2, rfl, Mine.of o hlen, hb⟩
theorem or2_ow (W : World) (he : Env W) (ad ad' : Option Addr) (n n' cp cp' : Nat) (l k : List Sp.S) (B B' : Nat) (h : SR W ad n l B) (h' : SR W ad' n' k B') (hB : B ≤ 500) (hB' : B' ≤ 500) :
    Calls Tryz.prog 17 #[.slice (some ⟨W.heap.size, 0, none⟩) 2 2] (W.alloc (.cells #[.slice ad n cp, .slice ad' n' cp'] 24)) fun e w' => ∃ a2 n2 c2, e = .returned (.slice a2 n2 c2) ∧ Mine w' W.heap.size (.slice a2 n2 c2) ∧ RowKit.Below W.heap.size W w' := by
  have hle := h.le
  have hle' := h'.le
  have hn := h.r.n
  have hn' := h'.r.n
  have hb0 : RowKit.Below W.heap.size W (W.alloc (.cells #[.slice ad n cp, .slice ad' n' cp'] 24)) := (by repeat (first | with_reducible assumption | with_reducible exact Below.refl _ _ | with_reducible refine Below.setCell ?_ (by first | exact Nat.le_refl _ | (simp; done) | (simp; omega)) _ | with_reducible refine bal ?_ _ | with_reducible refine Below.alloc ?_ (by first | exact Nat.le_refl _ | (simp; done) | (simp; omega)) _ | with_reducible refine Below.drew ?_))
  have hrr := rrow2 (a := ⟨ad, n, cp⟩) (b := ⟨ad', n', cp'⟩) 24 h.r h'.r
  have hfl : [l, k].flatten.length = l.length + k.length := by simp
  refine (sor_any (some ⟨W.heap.size, 0, none⟩) 2 2 [l, k] _ hrr (by omega) (by omega) (Sp.ok_two h.row.ok h'.row.ok) (he.later hb0)).mono ?_
  rintro e w' ⟨v', rfl, o, hb⟩
  obtain ⟨a2, c2, rfl, _, _, _⟩ := o.any
  exact ⟨a2, _, c2, rfl, Mine.of (o.base (by simp)) (by have := nrm_len [l, k].flatten; omega), step hb0 hb⟩
theorem or1_ow (W : World) (he : Env W) (ad : Option Addr) (n cp : Nat) (l : List Sp.S) (B : Nat) (h : SR W ad n l B) (hB : B ≤ 500) :
    Calls Tryz.prog 17 #[.slice (some ⟨W.heap.size, 0, none⟩) 1 1] (W.alloc (.cells #[.slice ad n cp] 24)) fun e w' => ∃ a2 n2 c2, e = .returned (.slice a2 n2 c2) ∧ Mine w' W.heap.size (.slice a2 n2 c2) ∧ RowKit.Below W.heap.size W w' := by
  have hle := h.le
  have hn := h.r.n
  have hb0 : RowKit.Below W.heap.size W (W.alloc (.cells #[.slice ad n cp] 24)) := (by repeat (first | with_reducible assumption | with_reducible exact Below.refl _ _ | with_reducible refine Below.setCell ?_ (by first | exact Nat.le_refl _ | (simp; done) | (simp; omega)) _ | with_reducible refine bal ?_ _ | with_reducible refine Below.alloc ?_ (by first | exact Nat.le_refl _ | (simp; done) | (simp; omega)) _ | with_reducible refine Below.drew ?_))
  have hrr := rrow1 (a := ⟨ad, n, cp⟩) 24 h.r
  have hfl : [l].flatten = l := by simp
  refine (sor_any (some ⟨W.heap.size, 0, none⟩) 1 1 [l] _ hrr (by omega) (by rw [hfl]; omega) (by rw [hfl]; exact h.row.ok) (he.later hb0)).mono ?_
  rintro e w' ⟨v', rfl, o, hb⟩
  obtain ⟨a2, c2, rfl, _, _, _⟩ := o.any
  exact ⟨a2, _, c2, rfl, Mine.of (o.base (by simp)) (by have := nrm_len [l].flatten; rw [hfl] at this ⊢; omega), step hb0 hb⟩
end Go.Proofs.YtohnlhfgajipgaaGreatDoor
