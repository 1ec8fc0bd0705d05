/-
  Contract of signed.
-/
import Derived.Test.YthihnpjbdjmbhaaGreatDoorG22

namespace Go.Proofs.YthihnpjbdjmbhaaGreatDoor
set_option linter.unusedSimpArgs false
set_option linter.unusedVariables false
open Go.RowKit Go.Vr Go.Sort Go.Tx Go.Lib
attribute [local go_sem] setCellDrewN allocDrewN

/-- What a word says, told: spans of the call's own, or none. -/
def Told (w w' : World) (e : Ending) (o : Option (List Sp.S)) : Prop := match o with
  | none => e = .returned (.tuple #[.slice none 0 0, .bool false])
  | some l => ∃ v', e = .returned (.tuple #[v', .bool true]) ∧ EOwn ES w' w.heap.size v' l

theorem signs (g : ByteArray) (v : V) : g = ⟨#[]⟩ ∨ g = ⟨#[61]⟩ ∨ g = ⟨#[33, 61]⟩ ∨ g = ⟨#[62]⟩ ∨ g = ⟨#[62, 61]⟩ ∨ g = ⟨#[60]⟩ ∨ g = ⟨#[60, 61]⟩ ∨ g = ⟨#[94]⟩ ∨ g = ⟨#[126]⟩ ∨ (g.toList.isEmpty = false ∧ (g.toList == [61]) = false ∧ (g.toList == [33, 61]) = false ∧ (g.toList == [62]) = false ∧ (g.toList == [62, 61]) = false ∧ (g.toList == [60]) = false ∧ (g.toList == [60, 61]) = false ∧ (g.toList == [94]) = false ∧ (g.toList == [126]) = false ∧ Hid (Sp.signedM g.data.toList v = none)) := by
  have key : ∀ (l : Bs), ¬ g = ⟨l.toArray⟩ → (g.toList == l) = false ∧ ¬ g.data.toList = l := by
    intro l h
    have h2 : ¬ g.data.toList = l := fun e => h (ba_ext (by rw [e]))
    exact ⟨by rw [toList_data]; simpa using h2, h2⟩
  by_cases k0 : g = ⟨#[]⟩
  · exact .inl k0
  by_cases k1 : g = ⟨#[61]⟩
  · exact .inr (.inl k1)
  by_cases k2 : g = ⟨#[33, 61]⟩
  · exact .inr (.inr (.inl k2))
  by_cases k3 : g = ⟨#[62]⟩
  · exact .inr (.inr (.inr (.inl k3)))
  by_cases k4 : g = ⟨#[62, 61]⟩
  · exact .inr (.inr (.inr (.inr (.inl k4))))
  by_cases k5 : g = ⟨#[60]⟩
  · exact .inr (.inr (.inr (.inr (.inr (.inl k5)))))
  by_cases k6 : g = ⟨#[60, 61]⟩
  · exact .inr (.inr (.inr (.inr (.inr (.inr (.inl k6))))))
  by_cases k7 : g = ⟨#[94]⟩
  · exact .inr (.inr (.inr (.inr (.inr (.inr (.inr (.inl k7)))))))
  by_cases k8 : g = ⟨#[126]⟩
  · exact .inr (.inr (.inr (.inr (.inr (.inr (.inr (.inr (.inl k8))))))))
  refine .inr (.inr (.inr (.inr (.inr (.inr (.inr (.inr (.inr (⟨?_, (key [61] k1).1, (key [33, 61] k2).1, (key [62] k3).1, (key [62, 61] k4).1, (key [60] k5).1, (key [60, 61] k6).1, (key [94] k7).1, (key [126] k8).1, ?_⟩)))))))))
  · have := (key [] k0).2
    rw [toList_data]; simpa using this
  · show _ = _
    unfold Sp.signedM
    rw [if_neg (fun h => h.elim (key [] k0).2 (key [61] k1).2), if_neg (key [33, 61] k2).2, if_neg (key [62] k3).2, if_neg (key [62, 61] k4).2, if_neg (key [60] k5).2, if_neg (key [60, 61] k6).2, if_neg (key [94] k7).2, if_neg (key [126] k8).2]

set_option maxHeartbeats 16000000 in
set_option maxRecDepth 100000 in
theorem signed_any (g : ByteArray) (v : V) (w : World) (hv : v.ok = true) (he : Env w) :
    Calls Tryz.prog 121 #[.string g, val v] w fun e w' => Told w w' e (Sp.signedM g.data.toList v) ∧ RowKit.Below w.heap.size w w' := by
  have CL : Hid (∀ W, Calls Tryz.prog 31 #[ver v.a v.b v.c v.p] W fun e w' => e = .returned (pl (some (v, false))).val ∧ RowKit.Below W.heap.size W w') := fun W => ahead_raw _ _ _ _ W
  have CH : Hid (∀ W, Calls Tryz.prog 103 #[ver v.a v.b v.c v.p] W fun e w' => e = .returned (pl (some (v, true))).val ∧ RowKit.Below W.heap.size W w') := fun W => behind_raw _ _ _ _ W
  have HV := hide hv
  have HE := hide he
  have hcells : v = ⟨v.a, v.b, v.c, v.p⟩ := rfl
  generalize ha : v.a = a at *
  generalize hb : v.b = b at *
  generalize hc : v.c = c at *
  generalize hp : v.p = p at *
  clear hv he hcells
  generalize hu1 : pl (some (v, false)) = u1 at *
  generalize hu2 : pl (some (v, true)) = u2 at *
  show Calls Tryz.prog 121 #[.string g, ver v.a v.b v.c v.p] w _
  rw [ha, hb, hc, hp]
  go_enter Tryz.func121, Tryz.ntmps121
  go_wp2_with fail
  have X0 := Box.new w #[.int .i64 a, .int .i64 b, .int .i64 c, .string p] 37
  have hW2 : RowKit.Below w.heap.size w (w.alloc (.cells #[.int .i64 a, .int .i64 b, .int .i64 c, .string p] 37)) := (by repeat (first | with_reducible assumption | with_reducible exact Below.refl _ _ | with_reducible refine Below.setCell ?_ (by first | exact Nat.le_refl _ | (simp; done) | (simp; omega)) _ | with_reducible refine bal ?_ _ | with_reducible refine Below.alloc ?_ (by first | exact Nat.le_refl _ | (simp; done) | (simp; omega)) _ | with_reducible refine Below.drew ?_))
  generalize w.alloc (.cells #[.int .i64 a, .int .i64 b, .int .i64 c, .string p] 37) = w2 at *
  have KE : ∀ w', RowKit.Below w2.heap.size w2 w' → ∀ i, w'.cell? ⟨w.heap.size, i, none⟩ = (#[.int .i64 a, .int .i64 b, .int .i64 c, .string p] : Array Value)[i]? := fun w' h => (X0.later h).c
  have hlt := X0.lt
  have hB := RowKit.Below.refl w2.heap.size w2
  clear X0
  go_cut [6, 7] (fun p q wc => ∃ N M, p = .pointer (some ⟨N, 0, none⟩) ∧ q = .pointer (some ⟨M, 0, none⟩) ∧ N ≠ M ∧ w2.heap.size ≤ N ∧ w2.heap.size ≤ M ∧ Box wc N u1.cells ∧ Box wc M u2.cells ∧ RowKit.Below w2.heap.size w2 wc)
  case first =>
    go_region_held3 (fun w' => RowKit.Below w2.heap.size w2 w') (first | with_reducible assumption | exact (by repeat (first | with_reducible assumption | with_reducible exact Below.refl _ _ | with_reducible refine Below.setCell ?_ (by first | exact Nat.le_refl _ | (simp; done) | (simp; omega)) _ | with_reducible refine bal ?_ _ | with_reducible refine Below.alloc ?_ (by first | exact Nat.le_refl _ | (simp; done) | (simp; omega)) _ | with_reducible refine Below.drew ?_))) (first
      | (go_at_call 31; refine (CL.out _).mono ?_; rintro e w3 ⟨rfl, b3⟩; have k3 : RowKit.Below w2.heap.size w2 w3 := (by refine Below.trans ?_ (Below.mono b3 ?_); rotate_left; exact Below.size (by with_reducible assumption); with_reducible assumption); have z3 := k3.size; first | (with_reducible have A := box2ad b3; with_reducible have B := box2bd b3; have cA := A.c; have fA := A.f; have cB := B.c; have fB := B.f; have lA := A.lt; have lB := B.lt; have nA := Nat.ne_of_lt lA; have nB := Nat.ne_of_lt lB) | (with_reducible have A := box1d b3; have cA := A.c; have fA := A.f; have lA := A.lt; have nA := Nat.ne_of_lt lA) | skip)
      | (go_at_call 103; refine (CH.out _).mono ?_; rintro e w4 ⟨rfl, b4⟩; have k4 : RowKit.Below w2.heap.size w2 w4 := (by refine Below.trans ?_ (Below.mono b4 ?_); rotate_left; exact Below.size (by with_reducible assumption); with_reducible assumption); have z4 := k4.size; (try (with_reducible have A4 := boxl A b4; have cA4 := A4.c; have fA4 := A4.f; have lA4 := A4.lt; have nA4 := Nat.ne_of_lt lA4)); (try (with_reducible have B4 := boxl B b4; have cB4 := B4.c; have fB4 := B4.f; have lB4 := B4.lt; have nB4 := Nat.ne_of_lt lB4)); (try (with_reducible have A4 := boxl1 A b4; have cA4 := A4.c; have fA4 := A4.f; have lA4 := A4.lt; have nA4 := Nat.ne_of_lt lA4)); first | (with_reducible have D := box2a b4; with_reducible have E := box2b b4; have cD := D.c; have fD := D.f; have cE := E.c; have fE := E.f; have lE := E.lt; have nE := Nat.ne_of_lt lE; have lD := D.lt; have nD := Nat.ne_of_lt lD) | (with_reducible have D := box1 b4; have cD := D.c; have fD := D.f; have lD := D.lt; have nD := Nat.ne_of_lt lD) | skip))
    all_goals rename_i hHeld
    all_goals go_wp2_with fail
    all_goals go_meet
    all_goals case rel =>
      clear CL CH KE
      refine ⟨_, _, rfl, rfl, by omega, by omega, by omega, ?_, ?_, by first | with_reducible assumption | exact (by repeat (first | with_reducible assumption | with_reducible exact Below.refl _ _ | with_reducible refine Below.setCell ?_ (by first | exact Nat.le_refl _ | (simp; done) | (simp; omega)) _ | with_reducible refine bal ?_ _ | with_reducible refine Below.alloc ?_ (by first | exact Nat.le_refl _ | (simp; done) | (simp; omega)) _ | with_reducible refine Below.drew ?_))⟩
      all_goals repeat (first | with_reducible assumption | with_reducible exact box_new (by first | rfl | simp) rfl | with_reducible refine box_set ?_ rfl | with_reducible refine box_far ?_ (by omega) | with_reducible refine Box.alloc ?_ _)
  case rest =>
  obtain ⟨N, M, rfl, rfl, hNM, hN, hM, X, Y, hBc⟩ := hcut
  have hBw : RowKit.Below w.heap.size w wc := hW2.trans (hBc.mono hW2.size)
  clear KE CL CH hB hlt hW2 hBc
  have hg : g = ⟨#[]⟩ ∨ g = ⟨#[61]⟩ ∨ g = ⟨#[33, 61]⟩ ∨ g = ⟨#[62]⟩ ∨ g = ⟨#[62, 61]⟩ ∨ g = ⟨#[60]⟩ ∨ g = ⟨#[60, 61]⟩ ∨ g = ⟨#[94]⟩ ∨ g = ⟨#[126]⟩ ∨ (g.toList.isEmpty = false ∧ (g.toList == [61]) = false ∧ (g.toList == [33, 61]) = false ∧ (g.toList == [62]) = false ∧ (g.toList == [62, 61]) = false ∧ (g.toList == [60]) = false ∧ (g.toList == [60, 61]) = false ∧ (g.toList == [94]) = false ∧ (g.toList == [126]) = false ∧ Hid (Sp.signedM g.data.toList v = none)) := signs g v
  rcases hg with rfl | rfl | rfl | rfl | rfl | rfl | rfl | rfl | rfl | ⟨h0, h1, h2, h3, h4, h5, h6, h7, h8, HN⟩
  · skip
    have CO : Hid (∀ W, RowKit.Below w.heap.size w W → Calls Tryz.prog 102 #[(pl (some (v, false))).val, (pl (some (v, true))).val] W fun e w' => ∃ v', e = .returned v' ∧ EOwn ES w' W.heap.size v' (Sp.only Sp.cmpC (some (v, false)) (some (v, true))) ∧ RowKit.Below W.heap.size W w') := fun W hW => by rw [← pl_val, ← pl_val]; exact only_any _ _ (Sp.ok_v HV.out false) (Sp.ok_v HV.out true) W (HE.out.later hW)
    have HBw := hide hBw
    have cX := X.c
    have cY := Y.c
    rw [hu1, hu2] at CO
    go_wp2_with fail
    refine (CO.out _ HBw.out).mono ?_
    rintro e w3 ⟨v3, rfl, o3, b3⟩
    clear CO cX cY
    go_wp2_with fail
    exact bodyPost_ret (by simp [results, Tryz.results121, go_sem]) rfl ⟨⟨v3, rfl, o3.base (by have := HBw.out.size; omega)⟩, HBw.out.trans (b3.mono HBw.out.size)⟩
  · skip
    have CO : Hid (∀ W, RowKit.Below w.heap.size w W → Calls Tryz.prog 102 #[(pl (some (v, false))).val, (pl (some (v, true))).val] W fun e w' => ∃ v', e = .returned v' ∧ EOwn ES w' W.heap.size v' (Sp.only Sp.cmpC (some (v, false)) (some (v, true))) ∧ RowKit.Below W.heap.size W w') := fun W hW => by rw [← pl_val, ← pl_val]; exact only_any _ _ (Sp.ok_v HV.out false) (Sp.ok_v HV.out true) W (HE.out.later hW)
    have HBw := hide hBw
    have cX := X.c
    have cY := Y.c
    rw [hu1, hu2] at CO
    go_wp2_with fail
    refine (CO.out _ HBw.out).mono ?_
    rintro e w3 ⟨v3, rfl, o3, b3⟩
    clear CO cX cY
    go_wp2_with fail
    exact bodyPost_ret (by simp [results, Tryz.results121, go_sem]) rfl ⟨⟨v3, rfl, o3.base (by have := HBw.out.size; omega)⟩, HBw.out.trans (b3.mono HBw.out.size)⟩
  · skip
    have CO : Hid (∀ W, RowKit.Below w.heap.size w W → Calls Tryz.prog 102 #[(pl (some (v, false))).val, (pl (some (v, true))).val] W fun e w' => ∃ v', e = .returned v' ∧ EOwn ES w' W.heap.size v' (Sp.only Sp.cmpC (some (v, false)) (some (v, true))) ∧ RowKit.Below W.heap.size W w') := fun W hW => by rw [← pl_val, ← pl_val]; exact only_any _ _ (Sp.ok_v HV.out false) (Sp.ok_v HV.out true) W (HE.out.later hW)
    have okl : Sp.okL (Sp.only Sp.cmpC (some (v, false)) (some (v, true))) := Sp.ok_only (Sp.ok_v HV.out false) (Sp.ok_v HV.out true)
    have CN : Hid (∀ (W : World) (v' : Value), EOwn ES W w.heap.size v' (Sp.only Sp.cmpC (some (v, false)) (some (v, true))) → RowKit.Below w.heap.size w W → Calls Tryz.prog 11 #[v'] W fun e w' => ∃ v', e = .returned v' ∧ EOwn ES w' W.heap.size v' (Sp.notL (Sp.only Sp.cmpC (some (v, false)) (some (v, true)))) ∧ RowKit.Below W.heap.size W w') := fun W v' h1 h2 => by
      obtain ⟨a2, c2, rfl, _, _, h3⟩ := h1.any
      exact not_any _ _ _ _ W h3 (by have := only_len (some (v, false)) (some (v, true)); omega) okl (HE.out.later h2)
    clear okl
    have HBw := hide hBw
    have cX := X.c
    have cY := Y.c
    rw [hu1, hu2] at CO
    go_wp2_with fail
    refine (CO.out _ HBw.out).mono ?_
    rintro e w2' ⟨v2', rfl, o2', b2'⟩
    have HB2 := hide (HBw.out.trans (b2'.mono HBw.out.size))
    have o2' := o2'.base HBw.out.size
    clear CO cX cY b2'
    go_wp2_with fail
    refine (CN.out _ _ o2' HB2.out).mono ?_
    rintro e w3 ⟨v3, rfl, o3, b3⟩
    clear CN
    go_wp2_with fail
    exact bodyPost_ret (by simp [results, Tryz.results121, go_sem]) rfl ⟨⟨v3, rfl, o3.base (by have := HB2.out.size; omega)⟩, HB2.out.trans (b3.mono HB2.out.size)⟩
  · skip
    have CO : Hid (∀ W, RowKit.Below w.heap.size w W → Calls Tryz.prog 102 #[(pl (some (v, true))).val, (pl none).val] W fun e w' => ∃ v', e = .returned v' ∧ EOwn ES w' W.heap.size v' (Sp.only Sp.cmpC (some (v, true)) none) ∧ RowKit.Below W.heap.size W w') := fun W hW => by rw [← pl_val, ← pl_val]; exact only_any _ _ (Sp.ok_v HV.out true) Sp.ok_end W (HE.out.later hW)
    have CX : Hid (∀ W, Calls Tryz.prog 27 #[] W fun e w' => e = .returned (pl none).val ∧ RowKit.Below W.heap.size W w') := fun W => end_raw W
    simp only [hu1, hu2] at CO CX
    have HBw := hide hBw
    have cX := X.c
    have cY := Y.c
    generalize pl none = ux at CO CX
    have KX : ∀ w', RowKit.Below wc.heap.size wc w' → ∀ i, w'.cell? ⟨N, i, none⟩ = (u1.cells)[i]? := fun w' h => (X.later h).c
    have KY : ∀ w', RowKit.Below wc.heap.size wc w' → ∀ i, w'.cell? ⟨M, i, none⟩ = (u2.cells)[i]? := fun w' h => (Y.later h).c
    have hB := RowKit.Below.refl wc.heap.size wc
    go_wp2_with fail
    go_region_held3 (fun w' => RowKit.Below wc.heap.size wc w') (first | with_reducible assumption | exact (by repeat (first | with_reducible assumption | with_reducible exact Below.refl _ _ | with_reducible refine Below.setCell ?_ (by first | exact Nat.le_refl _ | (simp; done) | (simp; omega)) _ | with_reducible refine bal ?_ _ | with_reducible refine Below.alloc ?_ (by first | exact Nat.le_refl _ | (simp; done) | (simp; omega)) _ | with_reducible refine Below.drew ?_))) (first
      | (go_at_call 27; refine (CX.out _).mono ?_; rintro e w4 ⟨rfl, b4⟩; have b4 : RowKit.Below wc.heap.size wc w4 := (by refine Below.trans ?_ (Below.mono b4 ?_); rotate_left; exact Below.size (by with_reducible assumption); with_reducible assumption))
      | (go_at_call 102; refine (CO.out _ (HBw.out.trans (b4.mono HBw.out.size))).mono ?_; rintro e w3 ⟨v3, rfl, o3, b3⟩; have s4 := b4.size; have b3 : RowKit.Below wc.heap.size wc w3 := (by refine Below.trans ?_ (Below.mono b3 ?_); rotate_left; exact Below.size (by with_reducible assumption); with_reducible assumption)))
    clear KX KY cX cY CO CX
    go_wp2_with fail
    exact bodyPost_ret (by simp [results, Tryz.results121, go_sem]) rfl ⟨⟨v3, rfl, o3.base (by have := HBw.out.size; omega)⟩, HBw.out.trans (b3.mono HBw.out.size)⟩
  · skip
    have CO : Hid (∀ W, RowKit.Below w.heap.size w W → Calls Tryz.prog 102 #[(pl (some (v, false))).val, (pl none).val] W fun e w' => ∃ v', e = .returned v' ∧ EOwn ES w' W.heap.size v' (Sp.only Sp.cmpC (some (v, false)) none) ∧ RowKit.Below W.heap.size W w') := fun W hW => by rw [← pl_val, ← pl_val]; exact only_any _ _ (Sp.ok_v HV.out false) Sp.ok_end W (HE.out.later hW)
    have CX : Hid (∀ W, Calls Tryz.prog 27 #[] W fun e w' => e = .returned (pl none).val ∧ RowKit.Below W.heap.size W w') := fun W => end_raw W
    simp only [hu1, hu2] at CO CX
    have HBw := hide hBw
    have cX := X.c
    have cY := Y.c
    generalize pl none = ux at CO CX
    have KX : ∀ w', RowKit.Below wc.heap.size wc w' → ∀ i, w'.cell? ⟨N, i, none⟩ = (u1.cells)[i]? := fun w' h => (X.later h).c
    have KY : ∀ w', RowKit.Below wc.heap.size wc w' → ∀ i, w'.cell? ⟨M, i, none⟩ = (u2.cells)[i]? := fun w' h => (Y.later h).c
    have hB := RowKit.Below.refl wc.heap.size wc
    go_wp2_with fail
    go_region_held3 (fun w' => RowKit.Below wc.heap.size wc w') (first | with_reducible assumption | exact (by repeat (first | with_reducible assumption | with_reducible exact Below.refl _ _ | with_reducible refine Below.setCell ?_ (by first | exact Nat.le_refl _ | (simp; done) | (simp; omega)) _ | with_reducible refine bal ?_ _ | with_reducible refine Below.alloc ?_ (by first | exact Nat.le_refl _ | (simp; done) | (simp; omega)) _ | with_reducible refine Below.drew ?_))) (first
      | (go_at_call 27; refine (CX.out _).mono ?_; rintro e w4 ⟨rfl, b4⟩; have b4 : RowKit.Below wc.heap.size wc w4 := (by refine Below.trans ?_ (Below.mono b4 ?_); rotate_left; exact Below.size (by with_reducible assumption); with_reducible assumption))
      | (go_at_call 102; refine (CO.out _ (HBw.out.trans (b4.mono HBw.out.size))).mono ?_; rintro e w3 ⟨v3, rfl, o3, b3⟩; have s4 := b4.size; have b3 : RowKit.Below wc.heap.size wc w3 := (by refine Below.trans ?_ (Below.mono b3 ?_); rotate_left; exact Below.size (by with_reducible assumption); with_reducible assumption)))
    clear KX KY cX cY CO CX
    go_wp2_with fail
    exact bodyPost_ret (by simp [results, Tryz.results121, go_sem]) rfl ⟨⟨v3, rfl, o3.base (by have := HBw.out.size; omega)⟩, HBw.out.trans (b3.mono HBw.out.size)⟩
  · skip
    have CO : Hid (∀ W, RowKit.Below w.heap.size w W → Calls Tryz.prog 102 #[(pl Sp.start).val, (pl (some (v, false))).val] W fun e w' => ∃ v', e = .returned v' ∧ EOwn ES w' W.heap.size v' (Sp.only Sp.cmpC Sp.start (some (v, false))) ∧ RowKit.Below W.heap.size W w') := fun W hW => by rw [← pl_val, ← pl_val]; exact only_any _ _ Sp.ok_start (Sp.ok_v HV.out false) W (HE.out.later hW)
    have CX : Hid (∀ W, Calls Tryz.prog 23 #[] W fun e w' => e = .returned (pl Sp.start).val ∧ RowKit.Below W.heap.size W w') := fun W => start_raw W
    simp only [hu1, hu2] at CO CX
    have HBw := hide hBw
    have cX := X.c
    have cY := Y.c
    generalize pl Sp.start = ux at CO CX
    have KX : ∀ w', RowKit.Below wc.heap.size wc w' → ∀ i, w'.cell? ⟨N, i, none⟩ = (u1.cells)[i]? := fun w' h => (X.later h).c
    have KY : ∀ w', RowKit.Below wc.heap.size wc w' → ∀ i, w'.cell? ⟨M, i, none⟩ = (u2.cells)[i]? := fun w' h => (Y.later h).c
    have hB := RowKit.Below.refl wc.heap.size wc
    go_wp2_with fail
    go_region_held3 (fun w' => RowKit.Below wc.heap.size wc w') (first | with_reducible assumption | exact (by repeat (first | with_reducible assumption | with_reducible exact Below.refl _ _ | with_reducible refine Below.setCell ?_ (by first | exact Nat.le_refl _ | (simp; done) | (simp; omega)) _ | with_reducible refine bal ?_ _ | with_reducible refine Below.alloc ?_ (by first | exact Nat.le_refl _ | (simp; done) | (simp; omega)) _ | with_reducible refine Below.drew ?_))) (first
      | (go_at_call 23; refine (CX.out _).mono ?_; rintro e w4 ⟨rfl, b4⟩; have b4 : RowKit.Below wc.heap.size wc w4 := (by refine Below.trans ?_ (Below.mono b4 ?_); rotate_left; exact Below.size (by with_reducible assumption); with_reducible assumption))
      | (go_at_call 102; refine (CO.out _ (HBw.out.trans (b4.mono HBw.out.size))).mono ?_; rintro e w3 ⟨v3, rfl, o3, b3⟩; have s4 := b4.size; have b3 : RowKit.Below wc.heap.size wc w3 := (by refine Below.trans ?_ (Below.mono b3 ?_); rotate_left; exact Below.size (by with_reducible assumption); with_reducible assumption)))
    clear KX KY cX cY CO CX
    go_wp2_with fail
    exact bodyPost_ret (by simp [results, Tryz.results121, go_sem]) rfl ⟨⟨v3, rfl, o3.base (by have := HBw.out.size; omega)⟩, HBw.out.trans (b3.mono HBw.out.size)⟩
  · skip
    have CO : Hid (∀ W, RowKit.Below w.heap.size w W → Calls Tryz.prog 102 #[(pl Sp.start).val, (pl (some (v, true))).val] W fun e w' => ∃ v', e = .returned v' ∧ EOwn ES w' W.heap.size v' (Sp.only Sp.cmpC Sp.start (some (v, true))) ∧ RowKit.Below W.heap.size W w') := fun W hW => by rw [← pl_val, ← pl_val]; exact only_any _ _ Sp.ok_start (Sp.ok_v HV.out true) W (HE.out.later hW)
    have CX : Hid (∀ W, Calls Tryz.prog 23 #[] W fun e w' => e = .returned (pl Sp.start).val ∧ RowKit.Below W.heap.size W w') := fun W => start_raw W
    simp only [hu1, hu2] at CO CX
    have HBw := hide hBw
    have cX := X.c
    have cY := Y.c
    generalize pl Sp.start = ux at CO CX
    have KX : ∀ w', RowKit.Below wc.heap.size wc w' → ∀ i, w'.cell? ⟨N, i, none⟩ = (u1.cells)[i]? := fun w' h => (X.later h).c
    have KY : ∀ w', RowKit.Below wc.heap.size wc w' → ∀ i, w'.cell? ⟨M, i, none⟩ = (u2.cells)[i]? := fun w' h => (Y.later h).c
    have hB := RowKit.Below.refl wc.heap.size wc
    go_wp2_with fail
    go_region_held3 (fun w' => RowKit.Below wc.heap.size wc w') (first | with_reducible assumption | exact (by repeat (first | with_reducible assumption | with_reducible exact Below.refl _ _ | with_reducible refine Below.setCell ?_ (by first | exact Nat.le_refl _ | (simp; done) | (simp; omega)) _ | with_reducible refine bal ?_ _ | with_reducible refine Below.alloc ?_ (by first | exact Nat.le_refl _ | (simp; done) | (simp; omega)) _ | with_reducible refine Below.drew ?_))) (first
      | (go_at_call 23; refine (CX.out _).mono ?_; rintro e w4 ⟨rfl, b4⟩; have b4 : RowKit.Below wc.heap.size wc w4 := (by refine Below.trans ?_ (Below.mono b4 ?_); rotate_left; exact Below.size (by with_reducible assumption); with_reducible assumption))
      | (go_at_call 102; refine (CO.out _ (HBw.out.trans (b4.mono HBw.out.size))).mono ?_; rintro e w3 ⟨v3, rfl, o3, b3⟩; have s4 := b4.size; have b3 : RowKit.Below wc.heap.size wc w3 := (by refine Below.trans ?_ (Below.mono b3 ?_); rotate_left; exact Below.size (by with_reducible assumption); with_reducible assumption)))
    clear KX KY cX cY CO CX
    go_wp2_with fail
    exact bodyPost_ret (by simp [results, Tryz.results121, go_sem]) rfl ⟨⟨v3, rfl, o3.base (by have := HBw.out.size; omega)⟩, HBw.out.trans (b3.mono HBw.out.size)⟩
  · skip
    have CO : Hid (∀ W, RowKit.Below w.heap.size w W → Calls Tryz.prog 102 #[(pl (some (v, false))).val, (pl (Sp.bumpL v)).val] W fun e w' => ∃ v', e = .returned v' ∧ EOwn ES w' W.heap.size v' (Sp.only Sp.cmpC (some (v, false)) (Sp.bumpL v)) ∧ RowKit.Below W.heap.size W w') := fun W hW => by rw [← pl_val, ← pl_val]; exact only_any _ _ (Sp.ok_v HV.out false) (Sp.ok_bumpL HV.out) W (HE.out.later hW)
    have CX : Hid (∀ W, Calls Tryz.prog 142 #[(pl (some (v, false))).val] W fun e w' => e = .returned (pl (Sp.bumpL v)).val ∧ RowKit.Below W.heap.size W w') := fun W => bumpL_any v false W HV.out
    simp only [hu1, hu2] at CO CX
    have HBw := hide hBw
    have cX := X.c
    have cY := Y.c
    generalize pl (Sp.bumpL v) = ux at CO CX
    have KX : ∀ w', RowKit.Below wc.heap.size wc w' → ∀ i, w'.cell? ⟨N, i, none⟩ = (u1.cells)[i]? := fun w' h => (X.later h).c
    have KY : ∀ w', RowKit.Below wc.heap.size wc w' → ∀ i, w'.cell? ⟨M, i, none⟩ = (u2.cells)[i]? := fun w' h => (Y.later h).c
    have hB := RowKit.Below.refl wc.heap.size wc
    go_wp2_with fail
    go_region_held3 (fun w' => RowKit.Below wc.heap.size wc w') (first | with_reducible assumption | exact (by repeat (first | with_reducible assumption | with_reducible exact Below.refl _ _ | with_reducible refine Below.setCell ?_ (by first | exact Nat.le_refl _ | (simp; done) | (simp; omega)) _ | with_reducible refine bal ?_ _ | with_reducible refine Below.alloc ?_ (by first | exact Nat.le_refl _ | (simp; done) | (simp; omega)) _ | with_reducible refine Below.drew ?_))) (first
      | (go_at_call 142; refine (CX.out _).mono ?_; rintro e w4 ⟨rfl, b4⟩; have b4 : RowKit.Below wc.heap.size wc w4 := (by refine Below.trans ?_ (Below.mono b4 ?_); rotate_left; exact Below.size (by with_reducible assumption); with_reducible assumption))
      | (go_at_call 102; refine (CO.out _ (HBw.out.trans (b4.mono HBw.out.size))).mono ?_; rintro e w3 ⟨v3, rfl, o3, b3⟩; have s4 := b4.size; have b3 : RowKit.Below wc.heap.size wc w3 := (by refine Below.trans ?_ (Below.mono b3 ?_); rotate_left; exact Below.size (by with_reducible assumption); with_reducible assumption)))
    clear KX KY cX cY CO CX
    go_wp2_with fail
    exact bodyPost_ret (by simp [results, Tryz.results121, go_sem]) rfl ⟨⟨v3, rfl, o3.base (by have := HBw.out.size; omega)⟩, HBw.out.trans (b3.mono HBw.out.size)⟩
  · skip
    have CO : Hid (∀ W, RowKit.Below w.heap.size w W → Calls Tryz.prog 102 #[(pl (some (v, false))).val, (pl (Sp.bumpB v)).val] W fun e w' => ∃ v', e = .returned v' ∧ EOwn ES w' W.heap.size v' (Sp.only Sp.cmpC (some (v, false)) (Sp.bumpB v)) ∧ RowKit.Below W.heap.size W w') := fun W hW => by rw [← pl_val, ← pl_val]; exact only_any _ _ (Sp.ok_v HV.out false) (Sp.ok_bumpB HV.out) W (HE.out.later hW)
    have CX : Hid (∀ W, Calls Tryz.prog 139 #[(pl (some (v, false))).val] W fun e w' => e = .returned (pl (Sp.bumpB v)).val ∧ RowKit.Below W.heap.size W w') := fun W => bumpB_any v false W HV.out
    simp only [hu1, hu2] at CO CX
    have HBw := hide hBw
    have cX := X.c
    have cY := Y.c
    generalize pl (Sp.bumpB v) = ux at CO CX
    have KX : ∀ w', RowKit.Below wc.heap.size wc w' → ∀ i, w'.cell? ⟨N, i, none⟩ = (u1.cells)[i]? := fun w' h => (X.later h).c
    have KY : ∀ w', RowKit.Below wc.heap.size wc w' → ∀ i, w'.cell? ⟨M, i, none⟩ = (u2.cells)[i]? := fun w' h => (Y.later h).c
    have hB := RowKit.Below.refl wc.heap.size wc
    go_wp2_with fail
    go_region_held3 (fun w' => RowKit.Below wc.heap.size wc w') (first | with_reducible assumption | exact (by repeat (first | with_reducible assumption | with_reducible exact Below.refl _ _ | with_reducible refine Below.setCell ?_ (by first | exact Nat.le_refl _ | (simp; done) | (simp; omega)) _ | with_reducible refine bal ?_ _ | with_reducible refine Below.alloc ?_ (by first | exact Nat.le_refl _ | (simp; done) | (simp; omega)) _ | with_reducible refine Below.drew ?_))) (first
      | (go_at_call 139; refine (CX.out _).mono ?_; rintro e w4 ⟨rfl, b4⟩; have b4 : RowKit.Below wc.heap.size wc w4 := (by refine Below.trans ?_ (Below.mono b4 ?_); rotate_left; exact Below.size (by with_reducible assumption); with_reducible assumption))
      | (go_at_call 102; refine (CO.out _ (HBw.out.trans (b4.mono HBw.out.size))).mono ?_; rintro e w3 ⟨v3, rfl, o3, b3⟩; have s4 := b4.size; have b3 : RowKit.Below wc.heap.size wc w3 := (by refine Below.trans ?_ (Below.mono b3 ?_); rotate_left; exact Below.size (by with_reducible assumption); with_reducible assumption)))
    clear KX KY cX cY CO CX
    go_wp2_with fail
    exact bodyPost_ret (by simp [results, Tryz.results121, go_sem]) rfl ⟨⟨v3, rfl, o3.base (by have := HBw.out.size; omega)⟩, HBw.out.trans (b3.mono HBw.out.size)⟩
  · show _
    go_wp2_with fail
    exact bodyPost_ret (v := .tuple #[.slice none 0 0, .bool false]) (by simp [results, Tryz.results121, go_sem]) rfl ⟨by rw [HN.out]; rfl, hBw⟩
end Go.Proofs.YthihnpjbdjmbhaaGreatDoor
