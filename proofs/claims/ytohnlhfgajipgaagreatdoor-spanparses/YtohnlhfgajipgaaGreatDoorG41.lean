/-
  Contracts of the reference's to, tell.
  Contract of the reference's tell.
-/
import Derived.Test.YtohnlhfgajipgaaGreatDoorG36
import Derived.Test.YtohnlhfgajipgaaGreatDoorG40
import Derived.Test.YtohnlhfgajipgaaGreatDoorG39

namespace Go.Proofs.YtohnlhfgajipgaaGreatDoor
set_option linter.unusedSimpArgs false
set_option linter.unusedVariables false
open Go.RowKit Go.Vr Go.Sort Go.Tx Go.Lib
attribute [local go_sem] setCellDrewN allocDrewN

/-- Behind a version's part so and so, bumped. -/
def bumpAt (v : V) (k : Int) : Sp.C := if k = 2 then Sp.bumpC v else if k = 1 then Sp.bumpB v else if k = 0 then Sp.bumpA v else none
theorem bumpAt_2 (v : V) : bumpAt v 2 = if v.c = 999999 then bumpAt v 1 else Sp.firstC v.a v.b (v.c + 1) := rfl
theorem bumpAt_1 (v : V) : bumpAt v 1 = if v.b = 999999 then bumpAt v 0 else Sp.firstC v.a (v.b + 1) 0 := rfl
theorem bumpAt_0 (v : V) : bumpAt v 0 = if v.a = 999999 then bumpAt v (-1) else Sp.firstC (v.a + 1) 0 0 := rfl
theorem bumpAt_n (v : V) : bumpAt v (-1) = none := rfl
abbrev sc (v : V) (z : Bool) : Array Value := #[.int .i64 v.a, .int .i64 v.b, .int .i64 v.c, .string v.p, .int .i64 0, .int .i64 0, .int .i64 0, .string ⟨#[]⟩, .bool false, .bool false, .bool z]
abbrev zc : Array Value := #[.int .i64 0, .int .i64 0, .int .i64 0, .string ⟨#[]⟩, .int .i64 0, .int .i64 0, .int .i64 0, .string ⟨#[]⟩, .bool false, .bool false, .bool false]

set_option maxHeartbeats 8000000 in
set_option maxRecDepth 100000 in
theorem rto_any (v : V) (k0 : Int) (W : World) (h0 : k0 = 0 ∨ k0 = 1 ∨ k0 = 2) (hv : (0 ≤ v.a ∧ v.a ≤ 1000000000) ∧ (0 ≤ v.b ∧ v.b ≤ 1000000000) ∧ (0 ≤ v.c ∧ v.c ≤ 1000000000)) :
    Calls Tryz.prog 131 #[ver v.a v.b v.c v.p, .int .i64 k0] W fun e w' => e = .returned (pt (some (v, false), bumpAt v k0)).val ∧ RowKit.Below W.heap.size W w' := by
  obtain ⟨⟨a1, a2⟩, ⟨b1, b2⟩, ⟨c1, c2⟩⟩ := hv
  have wa : wrap64 (v.a + 1) = v.a + 1 := by unfold wrap64; omega
  have wb : wrap64 (v.b + 1) = v.b + 1 := by unfold wrap64; omega
  have wc : wrap64 (v.c + 1) = v.c + 1 := by unfold wrap64; omega
  clear a1 a2 b1 b2 c1 c2
  go_enter Tryz.func131, Tryz.ntmps131
  go_wp2_with fail
  have hB4 : RowKit.Below W.heap.size W ((((W.alloc (.cells #[.int .i64 v.a, .int .i64 v.b, .int .i64 v.c, .string v.p] 34)).alloc (.cells zc 57)).alloc (.cells (sc v false) 57)).alloc (.cells #[.int .i64 v.a, .int .i64 v.b, .int .i64 v.c] 90)) := (by repeat (first | with_reducible assumption | with_reducible exact Below.refl _ _ | with_reducible refine Below.setCell ?_ (by first | exact Nat.le_refl _ | (simp; done) | (simp; omega)) _ | with_reducible refine bal ?_ _ | with_reducible refine Below.alloc ?_ (by first | exact Nat.le_refl _ | (simp; done) | (simp; omega)) _ | with_reducible refine Below.drew ?_))
  have XR := (((Box.new (W.alloc (.cells #[.int .i64 v.a, .int .i64 v.b, .int .i64 v.c, .string v.p] 34)) zc 57).alloc (.cells (sc v false) 57)).alloc (.cells #[.int .i64 v.a, .int .i64 v.b, .int .i64 v.c] 90))
  have XS := ((Box.new ((W.alloc (.cells #[.int .i64 v.a, .int .i64 v.b, .int .i64 v.c, .string v.p] 34)).alloc (.cells zc 57)) (sc v false) 57).alloc (.cells #[.int .i64 v.a, .int .i64 v.b, .int .i64 v.c] 90))
  have XM := (Box.new (((W.alloc (.cells #[.int .i64 v.a, .int .i64 v.b, .int .i64 v.c, .string v.p] 34)).alloc (.cells zc 57)).alloc (.cells (sc v false) 57)) #[.int .i64 v.a, .int .i64 v.b, .int .i64 v.c] 90)
  have z1 : (W.alloc (.cells #[.int .i64 v.a, .int .i64 v.b, .int .i64 v.c, .string v.p] 34)).heap.size = W.heap.size + 1 := by simp
  have z2 : ((W.alloc (.cells #[.int .i64 v.a, .int .i64 v.b, .int .i64 v.c, .string v.p] 34)).alloc (.cells zc 57)).heap.size = W.heap.size + 1 + 1 := by simp
  have z3 : (((W.alloc (.cells #[.int .i64 v.a, .int .i64 v.b, .int .i64 v.c, .string v.p] 34)).alloc (.cells zc 57)).alloc (.cells (sc v false) 57)).heap.size = W.heap.size + 1 + 1 + 1 := by simp
  rw [z1] at XR
  rw [z2] at XS
  rw [z3] at XM
  clear z1 z2 z3
  generalize ((((W.alloc (.cells #[.int .i64 v.a, .int .i64 v.b, .int .i64 v.c, .string v.p] 34)).alloc (.cells zc 57)).alloc (.cells (sc v false) 57)).alloc (.cells #[.int .i64 v.a, .int .i64 v.b, .int .i64 v.c] 90)) = W4 at *
  have HXR := hide XR
  have HXS := hide XS
  have HXM := hide XM
  have HB4 := hide hB4
  clear XR XS XM hB4
  go_loopw [1] (fun x wr => ∃ k : Int, x = .int .i64 k ∧ (k = -1 ∨ k = 0 ∨ k = 1 ∨ k = 2) ∧ wr = W4 ∧ Hid (bumpAt v k0 = bumpAt v k)) (fun x _ => (RowKit.intOf x + 1).toNat)
  case atStart => exact ⟨k0, rfl, by omega, rfl, hide rfl⟩
  case round =>
    obtain ⟨k, rfl, hk, rfl, HK⟩ := hrel
    obtain ⟨_, cM, fM⟩ := HXM.out
    obtain ⟨_, cS, fS⟩ := HXS.out
    obtain ⟨_, cR, fR⟩ := HXR.out
    rcases hk with rfl | rfl | rfl | rfl
    · rw [bumpAt_n] at HK
      go_wp2_with fail
      have hb9 := HB4.out
      exact bodyPost_ret (v := (pt (some (v, false), none)).val) (by simp [results, Tryz.results131, go_sem, *]; exact ⟨rfl, rfl, rfl, rfl, rfl, rfl, rfl, rfl, rfl, rfl, rfl⟩) rfl ⟨by rw [HK.out], (by repeat (first | with_reducible assumption | with_reducible exact Below.refl _ _ | with_reducible refine Below.setCell ?_ (by first | exact Nat.le_refl _ | (simp; done) | (simp; omega)) _ | with_reducible refine bal ?_ _ | with_reducible refine Below.alloc ?_ (by first | exact Nat.le_refl _ | (simp; done) | (simp; omega)) _ | with_reducible refine Below.drew ?_))⟩
    · rw [bumpAt_0] at HK
      by_cases hx : v.a = 999999
      · rw [if_pos hx] at HK
        go_wp2_with fail
        go_roundw
        case rel => exact ⟨-1, by first | rfl | go_num, by omega, by first | rfl | trivial, HK⟩
        case measure => simp [RowKit.intOf]
      · rw [if_neg hx] at HK
        have hx2 : (v.a == 999999) = false := by simpa using hx
        go_wp2_with fail
        go_loopw [7] (fun x wq => ∃ (i : Nat) (x0 x1 x2 : Int), x = .int .i64 i ∧ Hid (Box wq (W.heap.size + 1) zc) ∧ Hid (Box wq (W.heap.size + 1 + 1) (sc v false)) ∧ Hid (Box wq (W.heap.size + 1 + 1 + 1) #[.int .i64 x0, .int .i64 x1, .int .i64 x2]) ∧ Hid (RowKit.Below W.heap.size W wq) ∧ ((i = 0 ∧ x0 = v.a ∧ x1 = v.b ∧ x2 = v.c) ∨ (i = 1 ∧ x0 = v.a + 1 ∧ x1 = v.b ∧ x2 = v.c) ∨ (i = 2 ∧ x0 = v.a + 1 ∧ x1 = 0 ∧ x2 = v.c) ∨ (i = 3 ∧ x0 = v.a + 1 ∧ x1 = 0 ∧ x2 = 0))) (fun x _ => 3 - (RowKit.intOf x).toNat)
        case atStart => exact ⟨0, v.a, v.b, v.c, rfl, HXR, HXS, HXM, HB4, .inl ⟨rfl, rfl, rfl, rfl⟩⟩
        case round =>
          clear cM fM cS fS cR fR
          obtain ⟨i, x0, x1, x2, rfl, YR, YS, YM, HB, hst⟩ := hrel
          obtain ⟨_, cM, fM⟩ := YM.out
          obtain ⟨_, cS, fS⟩ := YS.out
          obtain ⟨_, cR, fR⟩ := YR.out
          rcases hst with ⟨rfl, rfl, rfl, rfl⟩ | ⟨rfl, rfl, rfl, rfl⟩ | ⟨rfl, rfl, rfl, rfl⟩ | ⟨rfl, rfl, rfl, rfl⟩
          · go_wp2_with fail
            go_roundw
            case rel => exact ⟨1, v.a + 1, v.b, v.c, by go_num, hide (YR.out.kept (grownBy_setCell _ _ _ _) (fun e => by have := Option.some.inj e; omega)), hide (YS.out.kept (grownBy_setCell _ _ _ _) (fun e => by have := Option.some.inj e; omega)), hide (YM.out.set 0 _ (by simp)), hide (HB.out.setCell (by simp; omega) _), .inr (.inl ⟨rfl, rfl, rfl, rfl⟩)⟩
            case measure => simp [RowKit.intOf]
          · go_wp2_with fail
            go_roundw
            case rel => exact ⟨2, v.a + 1, 0, v.c, by go_num, hide (YR.out.kept (grownBy_setCell _ _ _ _) (fun e => by have := Option.some.inj e; omega)), hide (YS.out.kept (grownBy_setCell _ _ _ _) (fun e => by have := Option.some.inj e; omega)), hide (YM.out.set 1 _ (by simp)), hide (HB.out.setCell (by simp; omega) _), .inr (.inr (.inl ⟨rfl, rfl, rfl, rfl⟩))⟩
            case measure => simp [RowKit.intOf]
          · go_wp2_with fail
            go_roundw
            case rel => exact ⟨3, v.a + 1, 0, 0, by go_num, hide (YR.out.kept (grownBy_setCell _ _ _ _) (fun e => by have := Option.some.inj e; omega)), hide (YS.out.kept (grownBy_setCell _ _ _ _) (fun e => by have := Option.some.inj e; omega)), hide (YM.out.set 2 _ (by simp)), hide (HB.out.setCell (by simp; omega) _), .inr (.inr (.inr (⟨rfl, rfl, rfl, rfl⟩)))⟩
            case measure => simp [RowKit.intOf]
          · go_wp2_with fail
            have hb9 := HB.out
            exact bodyPost_ret (v := (pt (some (v, false), Sp.firstC (v.a + 1) (0) (0))).val) (by simp [results, Tryz.results131, go_sem, *]; exact ⟨rfl, rfl, rfl, rfl, rfl, rfl, rfl, rfl, rfl, rfl, rfl⟩) rfl ⟨by rw [HK.out], (by repeat (first | with_reducible assumption | with_reducible exact Below.refl _ _ | with_reducible refine Below.setCell ?_ (by first | exact Nat.le_refl _ | (simp; done) | (simp; omega)) _ | with_reducible refine bal ?_ _ | with_reducible refine Below.alloc ?_ (by first | exact Nat.le_refl _ | (simp; done) | (simp; omega)) _ | with_reducible refine Below.drew ?_))⟩
    · rw [bumpAt_1] at HK
      by_cases hx : v.b = 999999
      · rw [if_pos hx] at HK
        go_wp2_with fail
        go_roundw
        case rel => exact ⟨0, by first | rfl | go_num, by omega, by first | rfl | trivial, HK⟩
        case measure => simp [RowKit.intOf]
      · rw [if_neg hx] at HK
        have hx2 : (v.b == 999999) = false := by simpa using hx
        go_wp2_with fail
        go_loopw [7] (fun x wq => ∃ (i : Nat) (x0 x1 x2 : Int), x = .int .i64 i ∧ Hid (Box wq (W.heap.size + 1) zc) ∧ Hid (Box wq (W.heap.size + 1 + 1) (sc v false)) ∧ Hid (Box wq (W.heap.size + 1 + 1 + 1) #[.int .i64 x0, .int .i64 x1, .int .i64 x2]) ∧ Hid (RowKit.Below W.heap.size W wq) ∧ ((i = 0 ∧ x0 = v.a ∧ x1 = v.b ∧ x2 = v.c) ∨ (i = 1 ∧ x0 = v.a ∧ x1 = v.b ∧ x2 = v.c) ∨ (i = 2 ∧ x0 = v.a ∧ x1 = v.b + 1 ∧ x2 = v.c) ∨ (i = 3 ∧ x0 = v.a ∧ x1 = v.b + 1 ∧ x2 = 0))) (fun x _ => 3 - (RowKit.intOf x).toNat)
        case atStart => exact ⟨0, v.a, v.b, v.c, rfl, HXR, HXS, HXM, HB4, .inl ⟨rfl, rfl, rfl, rfl⟩⟩
        case round =>
          clear cM fM cS fS cR fR
          obtain ⟨i, x0, x1, x2, rfl, YR, YS, YM, HB, hst⟩ := hrel
          obtain ⟨_, cM, fM⟩ := YM.out
          obtain ⟨_, cS, fS⟩ := YS.out
          obtain ⟨_, cR, fR⟩ := YR.out
          rcases hst with ⟨rfl, rfl, rfl, rfl⟩ | ⟨rfl, rfl, rfl, rfl⟩ | ⟨rfl, rfl, rfl, rfl⟩ | ⟨rfl, rfl, rfl, rfl⟩
          · go_wp2_with fail
            go_roundw
            case rel => exact ⟨1, v.a, v.b, v.c, by go_num, YR, YS, YM, HB, .inr (.inl ⟨rfl, rfl, rfl, rfl⟩)⟩
            case measure => simp [RowKit.intOf]
          · go_wp2_with fail
            go_roundw
            case rel => exact ⟨2, v.a, v.b + 1, v.c, by go_num, hide (YR.out.kept (grownBy_setCell _ _ _ _) (fun e => by have := Option.some.inj e; omega)), hide (YS.out.kept (grownBy_setCell _ _ _ _) (fun e => by have := Option.some.inj e; omega)), hide (YM.out.set 1 _ (by simp)), hide (HB.out.setCell (by simp; omega) _), .inr (.inr (.inl ⟨rfl, rfl, rfl, rfl⟩))⟩
            case measure => simp [RowKit.intOf]
          · go_wp2_with fail
            go_roundw
            case rel => exact ⟨3, v.a, v.b + 1, 0, by go_num, hide (YR.out.kept (grownBy_setCell _ _ _ _) (fun e => by have := Option.some.inj e; omega)), hide (YS.out.kept (grownBy_setCell _ _ _ _) (fun e => by have := Option.some.inj e; omega)), hide (YM.out.set 2 _ (by simp)), hide (HB.out.setCell (by simp; omega) _), .inr (.inr (.inr (⟨rfl, rfl, rfl, rfl⟩)))⟩
            case measure => simp [RowKit.intOf]
          · go_wp2_with fail
            have hb9 := HB.out
            exact bodyPost_ret (v := (pt (some (v, false), Sp.firstC (v.a) (v.b + 1) (0))).val) (by simp [results, Tryz.results131, go_sem, *]; exact ⟨rfl, rfl, rfl, rfl, rfl, rfl, rfl, rfl, rfl, rfl, rfl⟩) rfl ⟨by rw [HK.out], (by repeat (first | with_reducible assumption | with_reducible exact Below.refl _ _ | with_reducible refine Below.setCell ?_ (by first | exact Nat.le_refl _ | (simp; done) | (simp; omega)) _ | with_reducible refine bal ?_ _ | with_reducible refine Below.alloc ?_ (by first | exact Nat.le_refl _ | (simp; done) | (simp; omega)) _ | with_reducible refine Below.drew ?_))⟩
    · rw [bumpAt_2] at HK
      by_cases hx : v.c = 999999
      · rw [if_pos hx] at HK
        go_wp2_with fail
        go_roundw
        case rel => exact ⟨1, by first | rfl | go_num, by omega, by first | rfl | trivial, HK⟩
        case measure => simp [RowKit.intOf]
      · rw [if_neg hx] at HK
        have hx2 : (v.c == 999999) = false := by simpa using hx
        go_wp2_with fail
        go_loopw [7] (fun x wq => ∃ (i : Nat) (x0 x1 x2 : Int), x = .int .i64 i ∧ Hid (Box wq (W.heap.size + 1) zc) ∧ Hid (Box wq (W.heap.size + 1 + 1) (sc v false)) ∧ Hid (Box wq (W.heap.size + 1 + 1 + 1) #[.int .i64 x0, .int .i64 x1, .int .i64 x2]) ∧ Hid (RowKit.Below W.heap.size W wq) ∧ ((i = 0 ∧ x0 = v.a ∧ x1 = v.b ∧ x2 = v.c) ∨ (i = 1 ∧ x0 = v.a ∧ x1 = v.b ∧ x2 = v.c) ∨ (i = 2 ∧ x0 = v.a ∧ x1 = v.b ∧ x2 = v.c) ∨ (i = 3 ∧ x0 = v.a ∧ x1 = v.b ∧ x2 = v.c + 1))) (fun x _ => 3 - (RowKit.intOf x).toNat)
        case atStart => exact ⟨0, v.a, v.b, v.c, rfl, HXR, HXS, HXM, HB4, .inl ⟨rfl, rfl, rfl, rfl⟩⟩
        case round =>
          clear cM fM cS fS cR fR
          obtain ⟨i, x0, x1, x2, rfl, YR, YS, YM, HB, hst⟩ := hrel
          obtain ⟨_, cM, fM⟩ := YM.out
          obtain ⟨_, cS, fS⟩ := YS.out
          obtain ⟨_, cR, fR⟩ := YR.out
          rcases hst with ⟨rfl, rfl, rfl, rfl⟩ | ⟨rfl, rfl, rfl, rfl⟩ | ⟨rfl, rfl, rfl, rfl⟩ | ⟨rfl, rfl, rfl, rfl⟩
          · go_wp2_with fail
            go_roundw
            case rel => exact ⟨1, v.a, v.b, v.c, by go_num, YR, YS, YM, HB, .inr (.inl ⟨rfl, rfl, rfl, rfl⟩)⟩
            case measure => simp [RowKit.intOf]
          · go_wp2_with fail
            go_roundw
            case rel => exact ⟨2, v.a, v.b, v.c, by go_num, YR, YS, YM, HB, .inr (.inr (.inl ⟨rfl, rfl, rfl, rfl⟩))⟩
            case measure => simp [RowKit.intOf]
          · go_wp2_with fail
            go_roundw
            case rel => exact ⟨3, v.a, v.b, v.c + 1, by go_num, hide (YR.out.kept (grownBy_setCell _ _ _ _) (fun e => by have := Option.some.inj e; omega)), hide (YS.out.kept (grownBy_setCell _ _ _ _) (fun e => by have := Option.some.inj e; omega)), hide (YM.out.set 2 _ (by simp)), hide (HB.out.setCell (by simp; omega) _), .inr (.inr (.inr (⟨rfl, rfl, rfl, rfl⟩)))⟩
            case measure => simp [RowKit.intOf]
          · go_wp2_with fail
            have hb9 := HB.out
            exact bodyPost_ret (v := (pt (some (v, false), Sp.firstC (v.a) (v.b) (v.c + 1))).val) (by simp [results, Tryz.results131, go_sem, *]; exact ⟨rfl, rfl, rfl, rfl, rfl, rfl, rfl, rfl, rfl, rfl, rfl⟩) rfl ⟨by rw [HK.out], (by repeat (first | with_reducible assumption | with_reducible exact Below.refl _ _ | with_reducible refine Below.setCell ?_ (by first | exact Nat.le_refl _ | (simp; done) | (simp; omega)) _ | with_reducible refine bal ?_ _ | with_reducible refine Below.alloc ?_ (by first | exact Nat.le_refl _ | (simp; done) | (simp; omega)) _ | with_reducible refine Below.drew ?_))⟩
end Go.Proofs.YtohnlhfgajipgaaGreatDoor

namespace Go.Proofs.YtohnlhfgajipgaaGreatDoor
set_option linter.unusedSimpArgs false
set_option linter.unusedVariables false
open Go.RowKit Go.Vr Go.Sort Go.Tx Go.Lib
attribute [local go_sem] setCellDrewN allocDrewN

theorem ok_bd9 {v : V} (h : v.ok = true) : (0 ≤ v.a ∧ v.a ≤ 1000000000) ∧ (0 ≤ v.b ∧ v.b ≤ 1000000000) ∧ (0 ≤ v.c ∧ v.c ≤ 1000000000) := by
  obtain ⟨h1, h2, h3⟩ := Sp.parts_ok h
  omega
theorem only_self (v : V) : Sp.only Sp.cmpC (some (v, false)) (some (v, true)) = [(some (v, false), some (v, true))] := by
  unfold Sp.only
  rw [if_pos (by rw [Sp.cmp_same]; decide)]
theorem ok_bumpAt {v : V} (h : v.ok = true) (k : Int) : Sp.okC (bumpAt v k) := by
  unfold bumpAt
  split
  · exact Sp.ok_bumpC h
  split
  · exact Sp.ok_bumpB h
  split
  · exact Sp.ok_bumpA h
  exact Sp.ok_end
/-- What tell answers: spans whose norm is what the sign says. -/
def ToldR (W w' : World) (g : Bs) (v : V) (e : Ending) : Prop := ∃ ad n cp l, e = .returned (.slice ad n cp) ∧ ERow ES w' ad n l ∧ Sp.okL l ∧ n ≤ 2 ∧ Hid (Sp.signedM g v = some (Sp.nrm l)) ∧ RowKit.Below W.heap.size W w'
theorem toldR_one {W w' : World} {g : Bs} {v : V} {s : Sp.S} {N cp : Nat} (h : ERow ES w' (some ⟨N, 0, none⟩) 1 [s]) (hs : Sp.okS s) (hg : Sp.signedM g v = some (Sp.only Sp.cmpC s.1 s.2)) (hb : RowKit.Below W.heap.size W w') : ToldR W w' g v (.returned (.slice (some ⟨N, 0, none⟩) 1 cp)) :=
  ⟨_, _, _, [s], rfl, h, Sp.ok_l1 hs, by omega, hide (by rw [hg]; exact congrArg some (Sp.nrm_one s.1 s.2).symm), hb⟩

set_option maxHeartbeats 8000000 in
set_option maxRecDepth 100000 in
theorem rtell_any (k : Nat) (hk : k < 9) (v : V) (W : World) (hv : v.ok = true) :
    Calls Tryz.prog 111 #[.string (str (Sp.sigs.getD k [])), ver v.a v.b v.c v.p] W fun e w' => ToldR W w' (Sp.sigs.getD k []) v e := by
  have OV := hide hv
  have ok1 := Sp.ok_v hv true
  have ok0 := Sp.ok_v hv false
  have CT : Hid (∀ k0 W', (k0 = 0 ∨ k0 = 1 ∨ k0 = 2) → Calls Tryz.prog 131 #[ver v.a v.b v.c v.p, .int .i64 k0] W' fun e w' => e = .returned (pt (some (v, false), bumpAt v k0)).val ∧ RowKit.Below W'.heap.size W' w') := fun k0 W' h => rto_any v k0 W' h (ok_bd9 hv)
  have OB : Hid (∀ k0, Sp.okS (some (v, false), bumpAt v k0)) := fun k0 => ⟨⟨_, rfl⟩, ok0, ok_bumpAt hv k0⟩
  have b1 : Sp.okS (some (v, false), some (v, true)) := ⟨⟨_, rfl⟩, ok0, ok1⟩
  have B1 := hide b1
  have b2 : Sp.okS (some (v, true), none) := ⟨⟨_, rfl⟩, ok1, Sp.ok_end⟩
  have B2 := hide b2
  have b3 : Sp.okS (some (v, false), none) := ⟨⟨_, rfl⟩, ok0, Sp.ok_end⟩
  have B3 := hide b3
  have b4 : Sp.okS (Sp.start, some (v, false)) := ⟨⟨_, rfl⟩, Sp.ok_start, ok0⟩
  have B4 := hide b4
  have b5 : Sp.okS (Sp.start, some (v, true)) := ⟨⟨_, rfl⟩, Sp.ok_start, ok1⟩
  have B5 := hide b5
  clear ok1 ok0 b1 b2 b3 b4 b5 hv
  match k, hk with
  | 3, _ =>
    show Calls Tryz.prog 111 #[.string ⟨#[61]⟩, ver v.a v.b v.c v.p] W fun e w' => ToldR W w' [61] v e
    go_enter Tryz.func111, Tryz.ntmps111
    go_wp2_with fail
    go_ret
    exact toldR_one (ERow.newAt _ (some (v, false), some (v, true)) _ _ (by simp)) B1.out rfl (by repeat (first | with_reducible assumption | with_reducible exact Below.refl _ _ | with_reducible refine Below.setCell ?_ (by first | exact Nat.le_refl _ | (simp; done) | (simp; omega)) _ | with_reducible refine bal ?_ _ | with_reducible refine Below.alloc ?_ (by first | exact Nat.le_refl _ | (simp; done) | (simp; omega)) _ | with_reducible refine Below.drew ?_))
  | 8, _ =>
    show Calls Tryz.prog 111 #[.string ⟨#[]⟩, ver v.a v.b v.c v.p] W fun e w' => ToldR W w' [] v e
    have hem : (⟨#[]⟩ : ByteArray).toList.isEmpty = true := by decide +kernel
    go_enter Tryz.func111, Tryz.ntmps111
    go_wp2_with fail
    go_ret
    exact toldR_one (ERow.newAt _ (some (v, false), some (v, true)) _ _ (by simp)) B1.out rfl (by repeat (first | with_reducible assumption | with_reducible exact Below.refl _ _ | with_reducible refine Below.setCell ?_ (by first | exact Nat.le_refl _ | (simp; done) | (simp; omega)) _ | with_reducible refine bal ?_ _ | with_reducible refine Below.alloc ?_ (by first | exact Nat.le_refl _ | (simp; done) | (simp; omega)) _ | with_reducible refine Below.drew ?_))
  | 4, _ =>
    show Calls Tryz.prog 111 #[.string ⟨#[62]⟩, ver v.a v.b v.c v.p] W fun e w' => ToldR W w' [62] v e
    go_enter Tryz.func111, Tryz.ntmps111
    go_wp2_with fail
    go_ret
    exact toldR_one (ERow.newAt _ (some (v, true), none) _ _ (by simp)) B2.out rfl (by repeat (first | with_reducible assumption | with_reducible exact Below.refl _ _ | with_reducible refine Below.setCell ?_ (by first | exact Nat.le_refl _ | (simp; done) | (simp; omega)) _ | with_reducible refine bal ?_ _ | with_reducible refine Below.alloc ?_ (by first | exact Nat.le_refl _ | (simp; done) | (simp; omega)) _ | with_reducible refine Below.drew ?_))
  | 1, _ =>
    show Calls Tryz.prog 111 #[.string ⟨#[62, 61]⟩, ver v.a v.b v.c v.p] W fun e w' => ToldR W w' [62, 61] v e
    go_enter Tryz.func111, Tryz.ntmps111
    go_wp2_with fail
    go_ret
    exact toldR_one (ERow.newAt _ (some (v, false), none) _ _ (by simp)) B3.out rfl (by repeat (first | with_reducible assumption | with_reducible exact Below.refl _ _ | with_reducible refine Below.setCell ?_ (by first | exact Nat.le_refl _ | (simp; done) | (simp; omega)) _ | with_reducible refine bal ?_ _ | with_reducible refine Below.alloc ?_ (by first | exact Nat.le_refl _ | (simp; done) | (simp; omega)) _ | with_reducible refine Below.drew ?_))
  | 0, _ =>
    show Calls Tryz.prog 111 #[.string ⟨#[33, 61]⟩, ver v.a v.b v.c v.p] W fun e w' => ToldR W w' [33, 61] v e
    go_enter Tryz.func111, Tryz.ntmps111
    go_wp2_with fail
    have SO : Hid (SR ((W.alloc (.cells #[.int .i64 v.a, .int .i64 v.b, .int .i64 v.c, .string v.p] 34)).alloc (.cells (encS (some (v, false), some (v, true))).toArray 57)) (some ⟨W.heap.size + 1, 0, none⟩) 1 (Sp.only Sp.cmpC (some (v, false)) (some (v, true))) 1) := by
      refine ⟨?_, Sp.row_only (Sp.ok_v OV.out false) (Sp.ok_v OV.out true), by omega⟩
      rw [only_self]
      exact ERow.newAt _ (some (v, false), some (v, true)) _ _ (by simp)
    refine (rnot_sl _ _ _ _ _ 1 SO.out (by omega)).mono ?_
    rintro e w2 ⟨a2, n2, c2, rfl, h2, b2⟩
    have B9 : RowKit.Below W.heap.size W w2 := RowKit.Below.trans (((RowKit.Below.refl W.heap.size W).alloc (Nat.le_refl _) (.cells #[.int .i64 v.a, .int .i64 v.b, .int .i64 v.c, .string v.p] 34)).alloc (by simp) (.cells #[.int .i64 v.a, .int .i64 v.b, .int .i64 v.c, .string v.p, .int .i64 v.a, .int .i64 v.b, .int .i64 v.c, .string v.p, .bool false, .bool true, .bool false] 57)) (b2.mono (by simp; omega))
    have H2 := hide h2
    clear SO b2 h2
    go_wp2_with fail
    go_ret
    exact ⟨_, _, _, _, rfl, H2.out.r, H2.out.row.ok, H2.out.le, hide (by rw [Sp.nrm_same H2.out.row.nm]; rfl), B9⟩
  | 2, _ =>
    show Calls Tryz.prog 111 #[.string ⟨#[60, 61]⟩, ver v.a v.b v.c v.p] W fun e w' => ToldR W w' [60, 61] v e
    go_enter Tryz.func111, Tryz.ntmps111
    go_wp2_with fail
    have X1 := (Box.new W #[.int .i64 v.a, .int .i64 v.b, .int .i64 v.c, .string v.p] 34).alloc (.cells #[.int .i64 v.a, .int .i64 v.b, .int .i64 v.c, .string v.p, .int .i64 v.a, .int .i64 v.b, .int .i64 v.c, .string v.p, .bool false, .bool true, .bool false] 57)
    have BW : Hid (RowKit.Below W.heap.size W ((W.alloc (.cells #[.int .i64 v.a, .int .i64 v.b, .int .i64 v.c, .string v.p] 34)).alloc (.cells #[.int .i64 v.a, .int .i64 v.b, .int .i64 v.c, .string v.p, .int .i64 v.a, .int .i64 v.b, .int .i64 v.c, .string v.p, .bool false, .bool true, .bool false] 57))) := hide (((RowKit.Below.refl W.heap.size W).alloc (Nat.le_refl _) (.cells #[.int .i64 v.a, .int .i64 v.b, .int .i64 v.c, .string v.p] 34)).alloc (by simp) (.cells #[.int .i64 v.a, .int .i64 v.b, .int .i64 v.c, .string v.p, .int .i64 v.a, .int .i64 v.b, .int .i64 v.c, .string v.p, .bool false, .bool true, .bool false] 57))
    generalize ((W.alloc (.cells #[.int .i64 v.a, .int .i64 v.b, .int .i64 v.c, .string v.p] 34)).alloc (.cells #[.int .i64 v.a, .int .i64 v.b, .int .i64 v.c, .string v.p, .int .i64 v.a, .int .i64 v.b, .int .i64 v.c, .string v.p, .bool false, .bool true, .bool false] 57)) = W2 at *
    have KX : ∀ w', RowKit.Below W2.heap.size W2 w' → ∀ i, w'.cell? ⟨W.heap.size, i, none⟩ = (#[.int .i64 v.a, .int .i64 v.b, .int .i64 v.c, .string v.p] : Array Value)[i]? := fun w' h => (X1.later h).c
    clear X1
    go_region_held3 (fun w' => RowKit.Below W2.heap.size W2 w') (first | with_reducible assumption | exact (by repeat (first | with_reducible assumption | with_reducible exact Below.refl _ _ | with_reducible refine Below.setCell ?_ (by first | exact Nat.le_refl _ | (simp; done) | (simp; omega)) _ | with_reducible refine bal ?_ _ | with_reducible refine Below.alloc ?_ (by first | exact Nat.le_refl _ | (simp; done) | (simp; omega)) _ | with_reducible refine Below.drew ?_))) (first
      | (go_at_call 27; refine (rleast_any _).mono ?_; rintro e w3 ⟨rfl, b3⟩; have b3 : RowKit.Below W2.heap.size W2 w3 := (by refine Below.trans ?_ (Below.mono b3 ?_); rotate_left; exact Below.size (by with_reducible assumption); with_reducible assumption)))
    all_goals
      go_wp2_with fail
      go_ret
      exact toldR_one (ERow.new ES _ (Sp.start, some (v, true)) _) B5.out rfl (step BW.out (b3.alloc b3.size _))
  | 5, _ =>
    show Calls Tryz.prog 111 #[.string ⟨#[60]⟩, ver v.a v.b v.c v.p] W fun e w' => ToldR W w' [60] v e
    go_enter Tryz.func111, Tryz.ntmps111
    go_wp2_with fail
    have X1 := (Box.new W #[.int .i64 v.a, .int .i64 v.b, .int .i64 v.c, .string v.p] 34).alloc (.cells #[.int .i64 v.a, .int .i64 v.b, .int .i64 v.c, .string v.p, .int .i64 v.a, .int .i64 v.b, .int .i64 v.c, .string v.p, .bool false, .bool true, .bool false] 57)
    have BW : Hid (RowKit.Below W.heap.size W ((W.alloc (.cells #[.int .i64 v.a, .int .i64 v.b, .int .i64 v.c, .string v.p] 34)).alloc (.cells #[.int .i64 v.a, .int .i64 v.b, .int .i64 v.c, .string v.p, .int .i64 v.a, .int .i64 v.b, .int .i64 v.c, .string v.p, .bool false, .bool true, .bool false] 57))) := hide (((RowKit.Below.refl W.heap.size W).alloc (Nat.le_refl _) (.cells #[.int .i64 v.a, .int .i64 v.b, .int .i64 v.c, .string v.p] 34)).alloc (by simp) (.cells #[.int .i64 v.a, .int .i64 v.b, .int .i64 v.c, .string v.p, .int .i64 v.a, .int .i64 v.b, .int .i64 v.c, .string v.p, .bool false, .bool true, .bool false] 57))
    generalize ((W.alloc (.cells #[.int .i64 v.a, .int .i64 v.b, .int .i64 v.c, .string v.p] 34)).alloc (.cells #[.int .i64 v.a, .int .i64 v.b, .int .i64 v.c, .string v.p, .int .i64 v.a, .int .i64 v.b, .int .i64 v.c, .string v.p, .bool false, .bool true, .bool false] 57)) = W2 at *
    have KX : ∀ w', RowKit.Below W2.heap.size W2 w' → ∀ i, w'.cell? ⟨W.heap.size, i, none⟩ = (#[.int .i64 v.a, .int .i64 v.b, .int .i64 v.c, .string v.p] : Array Value)[i]? := fun w' h => (X1.later h).c
    clear X1
    go_region_held3 (fun w' => RowKit.Below W2.heap.size W2 w') (first | with_reducible assumption | exact (by repeat (first | with_reducible assumption | with_reducible exact Below.refl _ _ | with_reducible refine Below.setCell ?_ (by first | exact Nat.le_refl _ | (simp; done) | (simp; omega)) _ | with_reducible refine bal ?_ _ | with_reducible refine Below.alloc ?_ (by first | exact Nat.le_refl _ | (simp; done) | (simp; omega)) _ | with_reducible refine Below.drew ?_))) (first
      | (go_at_call 27; refine (rleast_any _).mono ?_; rintro e w3 ⟨rfl, b3⟩; have b3 : RowKit.Below W2.heap.size W2 w3 := (by refine Below.trans ?_ (Below.mono b3 ?_); rotate_left; exact Below.size (by with_reducible assumption); with_reducible assumption)))
    all_goals
      go_wp2_with fail
      go_ret
      exact toldR_one (ERow.new ES _ (Sp.start, some (v, false)) _) B4.out rfl (step BW.out (b3.alloc b3.size _))
  | 6, _ =>
    show Calls Tryz.prog 111 #[.string ⟨#[94]⟩, ver v.a v.b v.c v.p] W fun e w' => ToldR W w' [94] v e
    by_cases ha : 0 < v.a
    · have ha2 : decide (0 < v.a) = true := decide_eq_true ha
      have HA := hide ha
      go_enter Tryz.func111, Tryz.ntmps111
      go_wp2_with fail
      refine (CT.out 0 _ (by omega)).mono ?_
      rintro e w2 ⟨rfl, b2⟩
      have B9 : RowKit.Below W.heap.size W w2 := RowKit.Below.trans (((RowKit.Below.refl W.heap.size W).alloc (Nat.le_refl _) (.cells #[.int .i64 v.a, .int .i64 v.b, .int .i64 v.c, .string v.p] 34)).alloc (by simp) (.cells #[.int .i64 v.a, .int .i64 v.b, .int .i64 v.c, .string v.p, .int .i64 v.a, .int .i64 v.b, .int .i64 v.c, .string v.p, .bool false, .bool true, .bool false] 57)) (b2.mono (by simp; omega))
      clear b2
      go_wp2_with fail
      go_ret
      exact toldR_one (ERow.new ES w2 (some (v, false), bumpAt v 0) _) (OB.out 0) (by show some _ = some _; rw [Sp.bumpL, if_pos HA.out]; rfl) (step B9 (by repeat (first | with_reducible assumption | with_reducible exact Below.refl _ _ | with_reducible refine Below.setCell ?_ (by first | exact Nat.le_refl _ | (simp; done) | (simp; omega)) _ | with_reducible refine bal ?_ _ | with_reducible refine Below.alloc ?_ (by first | exact Nat.le_refl _ | (simp; done) | (simp; omega)) _ | with_reducible refine Below.drew ?_)))
    · have ha2 : decide (0 < v.a) = false := decide_eq_false ha
      have HA := hide ha
      by_cases hb : 0 < v.b
      · have hb2 : decide (0 < v.b) = true := decide_eq_true hb
        have HB := hide hb
        go_enter Tryz.func111, Tryz.ntmps111
        go_wp2_with fail
        refine (CT.out 1 _ (by omega)).mono ?_
        rintro e w2 ⟨rfl, b2⟩
        have B9 : RowKit.Below W.heap.size W w2 := RowKit.Below.trans (((RowKit.Below.refl W.heap.size W).alloc (Nat.le_refl _) (.cells #[.int .i64 v.a, .int .i64 v.b, .int .i64 v.c, .string v.p] 34)).alloc (by simp) (.cells #[.int .i64 v.a, .int .i64 v.b, .int .i64 v.c, .string v.p, .int .i64 v.a, .int .i64 v.b, .int .i64 v.c, .string v.p, .bool false, .bool true, .bool false] 57)) (b2.mono (by simp; omega))
        clear b2
        go_wp2_with fail
        go_ret
        exact toldR_one (ERow.new ES w2 (some (v, false), bumpAt v 1) _) (OB.out 1) (by show some _ = some _; rw [Sp.bumpL, if_neg (by have := HA.out; omega), if_pos HB.out]; rfl) (step B9 (by repeat (first | with_reducible assumption | with_reducible exact Below.refl _ _ | with_reducible refine Below.setCell ?_ (by first | exact Nat.le_refl _ | (simp; done) | (simp; omega)) _ | with_reducible refine bal ?_ _ | with_reducible refine Below.alloc ?_ (by first | exact Nat.le_refl _ | (simp; done) | (simp; omega)) _ | with_reducible refine Below.drew ?_)))
      · have hb2 : decide (0 < v.b) = false := decide_eq_false hb
        have HB := hide hb
        go_enter Tryz.func111, Tryz.ntmps111
        go_wp2_with fail
        refine (CT.out 2 _ (by omega)).mono ?_
        rintro e w2 ⟨rfl, b2⟩
        have B9 : RowKit.Below W.heap.size W w2 := RowKit.Below.trans (((RowKit.Below.refl W.heap.size W).alloc (Nat.le_refl _) (.cells #[.int .i64 v.a, .int .i64 v.b, .int .i64 v.c, .string v.p] 34)).alloc (by simp) (.cells #[.int .i64 v.a, .int .i64 v.b, .int .i64 v.c, .string v.p, .int .i64 v.a, .int .i64 v.b, .int .i64 v.c, .string v.p, .bool false, .bool true, .bool false] 57)) (b2.mono (by simp; omega))
        clear b2
        go_wp2_with fail
        go_ret
        exact toldR_one (ERow.new ES w2 (some (v, false), bumpAt v 2) _) (OB.out 2) (by show some _ = some _; rw [Sp.bumpL, if_neg (by have := HA.out; omega), if_neg (by have := HB.out; omega)]; rfl) (step B9 (by repeat (first | with_reducible assumption | with_reducible exact Below.refl _ _ | with_reducible refine Below.setCell ?_ (by first | exact Nat.le_refl _ | (simp; done) | (simp; omega)) _ | with_reducible refine bal ?_ _ | with_reducible refine Below.alloc ?_ (by first | exact Nat.le_refl _ | (simp; done) | (simp; omega)) _ | with_reducible refine Below.drew ?_)))
  | 7, _ =>
    show Calls Tryz.prog 111 #[.string ⟨#[126]⟩, ver v.a v.b v.c v.p] W fun e w' => ToldR W w' [126] v e
    go_enter Tryz.func111, Tryz.ntmps111
    go_wp2_with fail
    refine (CT.out 1 _ (by omega)).mono ?_
    rintro e w2 ⟨rfl, b2⟩
    have B9 : RowKit.Below W.heap.size W w2 := RowKit.Below.trans (((RowKit.Below.refl W.heap.size W).alloc (Nat.le_refl _) (.cells #[.int .i64 v.a, .int .i64 v.b, .int .i64 v.c, .string v.p] 34)).alloc (by simp) (.cells #[.int .i64 v.a, .int .i64 v.b, .int .i64 v.c, .string v.p, .int .i64 v.a, .int .i64 v.b, .int .i64 v.c, .string v.p, .bool false, .bool true, .bool false] 57)) (b2.mono (by simp; omega))
    clear b2
    go_wp2_with fail
    go_ret
    exact toldR_one (ERow.new ES w2 (some (v, false), bumpAt v 1) _) (OB.out 1) rfl (step B9 (by repeat (first | with_reducible assumption | with_reducible exact Below.refl _ _ | with_reducible refine Below.setCell ?_ (by first | exact Nat.le_refl _ | (simp; done) | (simp; omega)) _ | with_reducible refine bal ?_ _ | with_reducible refine Below.alloc ?_ (by first | exact Nat.le_refl _ | (simp; done) | (simp; omega)) _ | with_reducible refine Below.drew ?_)))
end Go.Proofs.YtohnlhfgajipgaaGreatDoor
