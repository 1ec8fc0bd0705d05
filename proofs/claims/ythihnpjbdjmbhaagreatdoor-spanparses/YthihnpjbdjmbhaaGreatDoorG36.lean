/-
  Contract of the reference's tell.
-/
import Derived.Test.YthihnpjbdjmbhaaGreatDoorG35
import Derived.Test.YthihnpjbdjmbhaaGreatDoorG30

namespace Go.Proofs.YthihnpjbdjmbhaaGreatDoor
set_option linter.unusedSimpArgs false
set_option linter.unusedVariables false
open Go.RowKit Go.Vr Go.Sort Go.Tx Go.Lib
attribute [local go_sem] setCellDrewN allocDrewN

theorem ok_bd9 {v : V} (h : v.ok = true) : (0 ≤ v.a ∧ v.a ≤ 1000000000) ∧ (0 ≤ v.b ∧ v.b ≤ 1000000000) ∧ (0 ≤ v.c ∧ v.c ≤ 1000000000) := by
  obtain ⟨h1, h2, h3⟩ := Sp.parts_ok h
  omega
theorem only_self (v : V) : Sp.only Sp.cmpC (some (v, false)) (some (v, true)) = [(some (v, false), some (v, true))] := by
  unfold Sp.only
  rw [if_pos (by rw [Sp.cmp_same]; decide)]
theorem ok_bumpAt {v : V} (h : v.ok = true) (k : Int) : Sp.okC (bumpAt v k) := by
  unfold bumpAt
  split
  · exact Sp.ok_bumpC h
  split
  · exact Sp.ok_bumpB h
  split
  · exact Sp.ok_bumpA h
  exact Sp.ok_end
/-- What tell answers: spans whose norm is what the sign says. -/
def ToldR (W w' : World) (g : Bs) (v : V) (e : Ending) : Prop := ∃ ad n cp l, e = .returned (.slice ad n cp) ∧ ERow ES w' ad n l ∧ Sp.okL l ∧ n ≤ 2 ∧ Hid (Sp.signedM g v = some (Sp.nrm l)) ∧ RowKit.Below W.heap.size W w'
theorem toldR_one {W w' : World} {g : Bs} {v : V} {s : Sp.S} {N cp : Nat} (h : ERow ES w' (some ⟨N, 0, none⟩) 1 [s]) (hs : Sp.okS s) (hg : Sp.signedM g v = some (Sp.only Sp.cmpC s.1 s.2)) (hb : RowKit.Below W.heap.size W w') : ToldR W w' g v (.returned (.slice (some ⟨N, 0, none⟩) 1 cp)) :=
  ⟨_, _, _, [s], rfl, h, Sp.ok_l1 hs, by omega, hide (by rw [hg]; exact congrArg some (Sp.nrm_one s.1 s.2).symm), hb⟩

set_option maxHeartbeats 8000000 in
set_option maxRecDepth 100000 in
theorem rtell_any (k : Nat) (hk : k < 9) (v : V) (W : World) (hv : v.ok = true) :
    Calls Tryz.prog 71 #[.string (str (Sp.sigs.getD k [])), ver v.a v.b v.c v.p] W fun e w' => ToldR W w' (Sp.sigs.getD k []) v e := by
  have OV := hide hv
  have ok1 := Sp.ok_v hv true
  have ok0 := Sp.ok_v hv false
  have CT : Hid (∀ k0 W', (k0 = 0 ∨ k0 = 1 ∨ k0 = 2) → Calls Tryz.prog 104 #[ver v.a v.b v.c v.p, .int .i64 k0] W' fun e w' => e = .returned (pt (some (v, false), bumpAt v k0)).val ∧ RowKit.Below W'.heap.size W' w') := fun k0 W' h => rto_any v k0 W' h (ok_bd9 hv)
  have OB : Hid (∀ k0, Sp.okS (some (v, false), bumpAt v k0)) := fun k0 => ⟨⟨_, rfl⟩, ok0, ok_bumpAt hv k0⟩
  have b1 : Sp.okS (some (v, false), some (v, true)) := ⟨⟨_, rfl⟩, ok0, ok1⟩
  have B1 := hide b1
  have b2 : Sp.okS (some (v, true), none) := ⟨⟨_, rfl⟩, ok1, Sp.ok_end⟩
  have B2 := hide b2
  have b3 : Sp.okS (some (v, false), none) := ⟨⟨_, rfl⟩, ok0, Sp.ok_end⟩
  have B3 := hide b3
  have b4 : Sp.okS (Sp.start, some (v, false)) := ⟨⟨_, rfl⟩, Sp.ok_start, ok0⟩
  have B4 := hide b4
  have b5 : Sp.okS (Sp.start, some (v, true)) := ⟨⟨_, rfl⟩, Sp.ok_start, ok1⟩
  have B5 := hide b5
  clear ok1 ok0 b1 b2 b3 b4 b5 hv
  match k, hk with
  | 3, _ =>
    show Calls Tryz.prog 71 #[.string ⟨#[61]⟩, ver v.a v.b v.c v.p] W fun e w' => ToldR W w' [61] v e
    go_enter Tryz.func71, Tryz.ntmps71
    go_wp2_with fail
    go_ret
    exact toldR_one (ERow.newAt _ (some (v, false), some (v, true)) _ _ (by simp)) B1.out rfl (by repeat (first | with_reducible assumption | with_reducible exact Below.refl _ _ | with_reducible refine Below.setCell ?_ (by first | exact Nat.le_refl _ | (simp; done) | (simp; omega)) _ | with_reducible refine bal ?_ _ | with_reducible refine Below.alloc ?_ (by first | exact Nat.le_refl _ | (simp; done) | (simp; omega)) _ | with_reducible refine Below.drew ?_))
  | 8, _ =>
    show Calls Tryz.prog 71 #[.string ⟨#[]⟩, ver v.a v.b v.c v.p] W fun e w' => ToldR W w' [] v e
    have hem : (⟨#[]⟩ : ByteArray).toList.isEmpty = true := by decide +kernel
    go_enter Tryz.func71, Tryz.ntmps71
    go_wp2_with fail
    go_ret
    exact toldR_one (ERow.newAt _ (some (v, false), some (v, true)) _ _ (by simp)) B1.out rfl (by repeat (first | with_reducible assumption | with_reducible exact Below.refl _ _ | with_reducible refine Below.setCell ?_ (by first | exact Nat.le_refl _ | (simp; done) | (simp; omega)) _ | with_reducible refine bal ?_ _ | with_reducible refine Below.alloc ?_ (by first | exact Nat.le_refl _ | (simp; done) | (simp; omega)) _ | with_reducible refine Below.drew ?_))
  | 4, _ =>
    show Calls Tryz.prog 71 #[.string ⟨#[62]⟩, ver v.a v.b v.c v.p] W fun e w' => ToldR W w' [62] v e
    go_enter Tryz.func71, Tryz.ntmps71
    go_wp2_with fail
    go_ret
    exact toldR_one (ERow.newAt _ (some (v, true), none) _ _ (by simp)) B2.out rfl (by repeat (first | with_reducible assumption | with_reducible exact Below.refl _ _ | with_reducible refine Below.setCell ?_ (by first | exact Nat.le_refl _ | (simp; done) | (simp; omega)) _ | with_reducible refine bal ?_ _ | with_reducible refine Below.alloc ?_ (by first | exact Nat.le_refl _ | (simp; done) | (simp; omega)) _ | with_reducible refine Below.drew ?_))
  | 1, _ =>
    show Calls Tryz.prog 71 #[.string ⟨#[62, 61]⟩, ver v.a v.b v.c v.p] W fun e w' => ToldR W w' [62, 61] v e
    go_enter Tryz.func71, Tryz.ntmps71
    go_wp2_with fail
    go_ret
    exact toldR_one (ERow.newAt _ (some (v, false), none) _ _ (by simp)) B3.out rfl (by repeat (first | with_reducible assumption | with_reducible exact Below.refl _ _ | with_reducible refine Below.setCell ?_ (by first | exact Nat.le_refl _ | (simp; done) | (simp; omega)) _ | with_reducible refine bal ?_ _ | with_reducible refine Below.alloc ?_ (by first | exact Nat.le_refl _ | (simp; done) | (simp; omega)) _ | with_reducible refine Below.drew ?_))
  | 0, _ =>
    show Calls Tryz.prog 71 #[.string ⟨#[33, 61]⟩, ver v.a v.b v.c v.p] W fun e w' => ToldR W w' [33, 61] v e
    go_enter Tryz.func71, Tryz.ntmps71
    go_wp2_with fail
    have SO : Hid (SR ((W.alloc (.cells #[.int .i64 v.a, .int .i64 v.b, .int .i64 v.c, .string v.p] 37)).alloc (.cells (encS (some (v, false), some (v, true))).toArray 44)) (some ⟨W.heap.size + 1, 0, none⟩) 1 (Sp.only Sp.cmpC (some (v, false)) (some (v, true))) 1) := by
      refine ⟨?_, Sp.row_only (Sp.ok_v OV.out false) (Sp.ok_v OV.out true), by omega⟩
      rw [only_self]
      exact ERow.newAt _ (some (v, false), some (v, true)) _ _ (by simp)
    refine (rnot_sl _ _ _ _ _ 1 SO.out (by omega)).mono ?_
    rintro e w2 ⟨a2, n2, c2, rfl, h2, b2⟩
    have B9 : RowKit.Below W.heap.size W w2 := RowKit.Below.trans (((RowKit.Below.refl W.heap.size W).alloc (Nat.le_refl _) (.cells #[.int .i64 v.a, .int .i64 v.b, .int .i64 v.c, .string v.p] 37)).alloc (by simp) (.cells #[.int .i64 v.a, .int .i64 v.b, .int .i64 v.c, .string v.p, .int .i64 v.a, .int .i64 v.b, .int .i64 v.c, .string v.p, .bool false, .bool true, .bool false] 44)) (b2.mono (by simp; omega))
    have H2 := hide h2
    clear SO b2 h2
    go_wp2_with fail
    go_ret
    exact ⟨_, _, _, _, rfl, H2.out.r, H2.out.row.ok, H2.out.le, hide (by rw [Sp.nrm_same H2.out.row.nm]; rfl), B9⟩
  | 2, _ =>
    show Calls Tryz.prog 71 #[.string ⟨#[60, 61]⟩, ver v.a v.b v.c v.p] W fun e w' => ToldR W w' [60, 61] v e
    go_enter Tryz.func71, Tryz.ntmps71
    go_wp2_with fail
    have X1 := (Box.new W #[.int .i64 v.a, .int .i64 v.b, .int .i64 v.c, .string v.p] 37).alloc (.cells #[.int .i64 v.a, .int .i64 v.b, .int .i64 v.c, .string v.p, .int .i64 v.a, .int .i64 v.b, .int .i64 v.c, .string v.p, .bool false, .bool true, .bool false] 44)
    have BW : Hid (RowKit.Below W.heap.size W ((W.alloc (.cells #[.int .i64 v.a, .int .i64 v.b, .int .i64 v.c, .string v.p] 37)).alloc (.cells #[.int .i64 v.a, .int .i64 v.b, .int .i64 v.c, .string v.p, .int .i64 v.a, .int .i64 v.b, .int .i64 v.c, .string v.p, .bool false, .bool true, .bool false] 44))) := hide (((RowKit.Below.refl W.heap.size W).alloc (Nat.le_refl _) (.cells #[.int .i64 v.a, .int .i64 v.b, .int .i64 v.c, .string v.p] 37)).alloc (by simp) (.cells #[.int .i64 v.a, .int .i64 v.b, .int .i64 v.c, .string v.p, .int .i64 v.a, .int .i64 v.b, .int .i64 v.c, .string v.p, .bool false, .bool true, .bool false] 44))
    generalize ((W.alloc (.cells #[.int .i64 v.a, .int .i64 v.b, .int .i64 v.c, .string v.p] 37)).alloc (.cells #[.int .i64 v.a, .int .i64 v.b, .int .i64 v.c, .string v.p, .int .i64 v.a, .int .i64 v.b, .int .i64 v.c, .string v.p, .bool false, .bool true, .bool false] 44)) = W2 at *
    have KX : ∀ w', RowKit.Below W2.heap.size W2 w' → ∀ i, w'.cell? ⟨W.heap.size, i, none⟩ = (#[.int .i64 v.a, .int .i64 v.b, .int .i64 v.c, .string v.p] : Array Value)[i]? := fun w' h => (X1.later h).c
    clear X1
    go_region_held3 (fun w' => RowKit.Below W2.heap.size W2 w') (first | with_reducible assumption | exact (by repeat (first | with_reducible assumption | with_reducible exact Below.refl _ _ | with_reducible refine Below.setCell ?_ (by first | exact Nat.le_refl _ | (simp; done) | (simp; omega)) _ | with_reducible refine bal ?_ _ | with_reducible refine Below.alloc ?_ (by first | exact Nat.le_refl _ | (simp; done) | (simp; omega)) _ | with_reducible refine Below.drew ?_))) (first
      | (go_at_call 69; refine (rleast_any _).mono ?_; rintro e w3 ⟨rfl, b3⟩; have b3 : RowKit.Below W2.heap.size W2 w3 := (by refine Below.trans ?_ (Below.mono b3 ?_); rotate_left; exact Below.size (by with_reducible assumption); with_reducible assumption)))
    all_goals
      go_wp2_with fail
      go_ret
      exact toldR_one (ERow.new ES _ (Sp.start, some (v, true)) _) B5.out rfl (step BW.out (b3.alloc b3.size _))
  | 5, _ =>
    show Calls Tryz.prog 71 #[.string ⟨#[60]⟩, ver v.a v.b v.c v.p] W fun e w' => ToldR W w' [60] v e
    go_enter Tryz.func71, Tryz.ntmps71
    go_wp2_with fail
    have X1 := (Box.new W #[.int .i64 v.a, .int .i64 v.b, .int .i64 v.c, .string v.p] 37).alloc (.cells #[.int .i64 v.a, .int .i64 v.b, .int .i64 v.c, .string v.p, .int .i64 v.a, .int .i64 v.b, .int .i64 v.c, .string v.p, .bool false, .bool true, .bool false] 44)
    have BW : Hid (RowKit.Below W.heap.size W ((W.alloc (.cells #[.int .i64 v.a, .int .i64 v.b, .int .i64 v.c, .string v.p] 37)).alloc (.cells #[.int .i64 v.a, .int .i64 v.b, .int .i64 v.c, .string v.p, .int .i64 v.a, .int .i64 v.b, .int .i64 v.c, .string v.p, .bool false, .bool true, .bool false] 44))) := hide (((RowKit.Below.refl W.heap.size W).alloc (Nat.le_refl _) (.cells #[.int .i64 v.a, .int .i64 v.b, .int .i64 v.c, .string v.p] 37)).alloc (by simp) (.cells #[.int .i64 v.a, .int .i64 v.b, .int .i64 v.c, .string v.p, .int .i64 v.a, .int .i64 v.b, .int .i64 v.c, .string v.p, .bool false, .bool true, .bool false] 44))
    generalize ((W.alloc (.cells #[.int .i64 v.a, .int .i64 v.b, .int .i64 v.c, .string v.p] 37)).alloc (.cells #[.int .i64 v.a, .int .i64 v.b, .int .i64 v.c, .string v.p, .int .i64 v.a, .int .i64 v.b, .int .i64 v.c, .string v.p, .bool false, .bool true, .bool false] 44)) = W2 at *
    have KX : ∀ w', RowKit.Below W2.heap.size W2 w' → ∀ i, w'.cell? ⟨W.heap.size, i, none⟩ = (#[.int .i64 v.a, .int .i64 v.b, .int .i64 v.c, .string v.p] : Array Value)[i]? := fun w' h => (X1.later h).c
    clear X1
    go_region_held3 (fun w' => RowKit.Below W2.heap.size W2 w') (first | with_reducible assumption | exact (by repeat (first | with_reducible assumption | with_reducible exact Below.refl _ _ | with_reducible refine Below.setCell ?_ (by first | exact Nat.le_refl _ | (simp; done) | (simp; omega)) _ | with_reducible refine bal ?_ _ | with_reducible refine Below.alloc ?_ (by first | exact Nat.le_refl _ | (simp; done) | (simp; omega)) _ | with_reducible refine Below.drew ?_))) (first
      | (go_at_call 69; refine (rleast_any _).mono ?_; rintro e w3 ⟨rfl, b3⟩; have b3 : RowKit.Below W2.heap.size W2 w3 := (by refine Below.trans ?_ (Below.mono b3 ?_); rotate_left; exact Below.size (by with_reducible assumption); with_reducible assumption)))
    all_goals
      go_wp2_with fail
      go_ret
      exact toldR_one (ERow.new ES _ (Sp.start, some (v, false)) _) B4.out rfl (step BW.out (b3.alloc b3.size _))
  | 6, _ =>
    show Calls Tryz.prog 71 #[.string ⟨#[94]⟩, ver v.a v.b v.c v.p] W fun e w' => ToldR W w' [94] v e
    by_cases ha : 0 < v.a
    · have ha2 : decide (0 < v.a) = true := decide_eq_true ha
      have HA := hide ha
      go_enter Tryz.func71, Tryz.ntmps71
      go_wp2_with fail
      refine (CT.out 0 _ (by omega)).mono ?_
      rintro e w2 ⟨rfl, b2⟩
      have B9 : RowKit.Below W.heap.size W w2 := RowKit.Below.trans (((RowKit.Below.refl W.heap.size W).alloc (Nat.le_refl _) (.cells #[.int .i64 v.a, .int .i64 v.b, .int .i64 v.c, .string v.p] 37)).alloc (by simp) (.cells #[.int .i64 v.a, .int .i64 v.b, .int .i64 v.c, .string v.p, .int .i64 v.a, .int .i64 v.b, .int .i64 v.c, .string v.p, .bool false, .bool true, .bool false] 44)) (b2.mono (by simp; omega))
      clear b2
      go_wp2_with fail
      go_ret
      exact toldR_one (ERow.new ES w2 (some (v, false), bumpAt v 0) _) (OB.out 0) (by show some _ = some _; rw [Sp.bumpL, if_pos HA.out]; rfl) (step B9 (by repeat (first | with_reducible assumption | with_reducible exact Below.refl _ _ | with_reducible refine Below.setCell ?_ (by first | exact Nat.le_refl _ | (simp; done) | (simp; omega)) _ | with_reducible refine bal ?_ _ | with_reducible refine Below.alloc ?_ (by first | exact Nat.le_refl _ | (simp; done) | (simp; omega)) _ | with_reducible refine Below.drew ?_)))
    · have ha2 : decide (0 < v.a) = false := decide_eq_false ha
      have HA := hide ha
      by_cases hb : 0 < v.b
      · have hb2 : decide (0 < v.b) = true := decide_eq_true hb
        have HB := hide hb
        go_enter Tryz.func71, Tryz.ntmps71
        go_wp2_with fail
        refine (CT.out 1 _ (by omega)).mono ?_
        rintro e w2 ⟨rfl, b2⟩
        have B9 : RowKit.Below W.heap.size W w2 := RowKit.Below.trans (((RowKit.Below.refl W.heap.size W).alloc (Nat.le_refl _) (.cells #[.int .i64 v.a, .int .i64 v.b, .int .i64 v.c, .string v.p] 37)).alloc (by simp) (.cells #[.int .i64 v.a, .int .i64 v.b, .int .i64 v.c, .string v.p, .int .i64 v.a, .int .i64 v.b, .int .i64 v.c, .string v.p, .bool false, .bool true, .bool false] 44)) (b2.mono (by simp; omega))
        clear b2
        go_wp2_with fail
        go_ret
        exact toldR_one (ERow.new ES w2 (some (v, false), bumpAt v 1) _) (OB.out 1) (by show some _ = some _; rw [Sp.bumpL, if_neg (by have := HA.out; omega), if_pos HB.out]; rfl) (step B9 (by repeat (first | with_reducible assumption | with_reducible exact Below.refl _ _ | with_reducible refine Below.setCell ?_ (by first | exact Nat.le_refl _ | (simp; done) | (simp; omega)) _ | with_reducible refine bal ?_ _ | with_reducible refine Below.alloc ?_ (by first | exact Nat.le_refl _ | (simp; done) | (simp; omega)) _ | with_reducible refine Below.drew ?_)))
      · have hb2 : decide (0 < v.b) = false := decide_eq_false hb
        have HB := hide hb
        go_enter Tryz.func71, Tryz.ntmps71
        go_wp2_with fail
        refine (CT.out 2 _ (by omega)).mono ?_
        rintro e w2 ⟨rfl, b2⟩
        have B9 : RowKit.Below W.heap.size W w2 := RowKit.Below.trans (((RowKit.Below.refl W.heap.size W).alloc (Nat.le_refl _) (.cells #[.int .i64 v.a, .int .i64 v.b, .int .i64 v.c, .string v.p] 37)).alloc (by simp) (.cells #[.int .i64 v.a, .int .i64 v.b, .int .i64 v.c, .string v.p, .int .i64 v.a, .int .i64 v.b, .int .i64 v.c, .string v.p, .bool false, .bool true, .bool false] 44)) (b2.mono (by simp; omega))
        clear b2
        go_wp2_with fail
        go_ret
        exact toldR_one (ERow.new ES w2 (some (v, false), bumpAt v 2) _) (OB.out 2) (by show some _ = some _; rw [Sp.bumpL, if_neg (by have := HA.out; omega), if_neg (by have := HB.out; omega)]; rfl) (step B9 (by repeat (first | with_reducible assumption | with_reducible exact Below.refl _ _ | with_reducible refine Below.setCell ?_ (by first | exact Nat.le_refl _ | (simp; done) | (simp; omega)) _ | with_reducible refine bal ?_ _ | with_reducible refine Below.alloc ?_ (by first | exact Nat.le_refl _ | (simp; done) | (simp; omega)) _ | with_reducible refine Below.drew ?_)))
  | 7, _ =>
    show Calls Tryz.prog 71 #[.string ⟨#[126]⟩, ver v.a v.b v.c v.p] W fun e w' => ToldR W w' [126] v e
    go_enter Tryz.func71, Tryz.ntmps71
    go_wp2_with fail
    refine (CT.out 1 _ (by omega)).mono ?_
    rintro e w2 ⟨rfl, b2⟩
    have B9 : RowKit.Below W.heap.size W w2 := RowKit.Below.trans (((RowKit.Below.refl W.heap.size W).alloc (Nat.le_refl _) (.cells #[.int .i64 v.a, .int .i64 v.b, .int .i64 v.c, .string v.p] 37)).alloc (by simp) (.cells #[.int .i64 v.a, .int .i64 v.b, .int .i64 v.c, .string v.p, .int .i64 v.a, .int .i64 v.b, .int .i64 v.c, .string v.p, .bool false, .bool true, .bool false] 44)) (b2.mono (by simp; omega))
    clear b2
    go_wp2_with fail
    go_ret
    exact toldR_one (ERow.new ES w2 (some (v, false), bumpAt v 1) _) (OB.out 1) rfl (step B9 (by repeat (first | with_reducible assumption | with_reducible exact Below.refl _ _ | with_reducible refine Below.setCell ?_ (by first | exact Nat.le_refl _ | (simp; done) | (simp; omega)) _ | with_reducible refine bal ?_ _ | with_reducible refine Below.alloc ?_ (by first | exact Nat.le_refl _ | (simp; done) | (simp; omega)) _ | with_reducible refine Below.drew ?_)))
end Go.Proofs.YthihnpjbdjmbhaaGreatDoor
