/-
  Contracts of the reference's to, tell.
-/
import Derived.Test.YtninheehoabbbaaGreatDoorQ10
import Derived.Test.YtninheehoabbbaaGreatDoorM29
namespace Go.Proofs.YtninheehoabbbaaGreatDoor
set_option linter.unusedSimpArgs false
set_option linter.unusedVariables false
open Go.RowKit Go.Vr Go.Sort Go.Tx Go.Lib
attribute [local go_sem] setCellDrewN allocDrewN

/-- Behind a version's part so and so, bumped. -/
def bumpAt (v : V) (k : Int) : Sp.C := if k = 2 then Sp.bumpC v else if k = 1 then Sp.bumpB v else if k = 0 then Sp.bumpA v else none
theorem bumpAt_2 (v : V) : bumpAt v 2 = if v.c = 999999 then bumpAt v 1 else Sp.firstC v.a v.b (v.c + 1) := rfl
theorem bumpAt_1 (v : V) : bumpAt v 1 = if v.b = 999999 then bumpAt v 0 else Sp.firstC v.a (v.b + 1) 0 := rfl
theorem bumpAt_0 (v : V) : bumpAt v 0 = if v.a = 999999 then bumpAt v (-1) else Sp.firstC (v.a + 1) 0 0 := rfl
theorem bumpAt_n (v : V) : bumpAt v (-1) = none := rfl
abbrev sc (v : V) (z : Bool) : Array Value := #[.int .i64 v.a, .int .i64 v.b, .int .i64 v.c, .string v.p, .int .i64 0, .int .i64 0, .int .i64 0, .string ⟨#[]⟩, .bool false, .bool false, .bool z]
abbrev zc : Array Value := #[.int .i64 0, .int .i64 0, .int .i64 0, .string ⟨#[]⟩, .int .i64 0, .int .i64 0, .int .i64 0, .string ⟨#[]⟩, .bool false, .bool false, .bool false]

set_option maxHeartbeats 8000000 in
set_option maxRecDepth 100000 in
theorem rto_any (v : V) (k0 : Int) (W : World) (h0 : k0 = 0 ∨ k0 = 1 ∨ k0 = 2) (hv : (0 ≤ v.a ∧ v.a ≤ 1000000000) ∧ (0 ≤ v.b ∧ v.b ≤ 1000000000) ∧ (0 ≤ v.c ∧ v.c ≤ 1000000000)) :
    Calls Tryz.prog 104 #[ver v.a v.b v.c v.p, .int .i64 k0] W fun e w' => e = .returned (pt (some (v, false), bumpAt v k0)).val ∧ RowKit.Below W.heap.size W w' := by
  obtain ⟨⟨a1, a2⟩, ⟨b1, b2⟩, ⟨c1, c2⟩⟩ := hv
  have wa : wrap64 (v.a + 1) = v.a + 1 := by unfold wrap64; omega
  have wb : wrap64 (v.b + 1) = v.b + 1 := by unfold wrap64; omega
  have wc : wrap64 (v.c + 1) = v.c + 1 := by unfold wrap64; omega
  clear a1 a2 b1 b2 c1 c2
  go_enter Tryz.func104, Tryz.ntmps104
  go_wp2_with fail
  have hB4 : RowKit.Below W.heap.size W ((((W.alloc (.cells #[.int .i64 v.a, .int .i64 v.b, .int .i64 v.c, .string v.p] 37)).alloc (.cells zc 44)).alloc (.cells (sc v false) 44)).alloc (.cells #[.int .i64 v.a, .int .i64 v.b, .int .i64 v.c] 57)) := (by repeat (first | with_reducible assumption | with_reducible exact Below.refl _ _ | with_reducible refine Below.setCell ?_ (by first | exact Nat.le_refl _ | (simp; done) | (simp; omega)) _ | with_reducible refine bal ?_ _ | with_reducible refine Below.alloc ?_ (by first | exact Nat.le_refl _ | (simp; done) | (simp; omega)) _ | with_reducible refine Below.drew ?_))
  have XR := (((Box.new (W.alloc (.cells #[.int .i64 v.a, .int .i64 v.b, .int .i64 v.c, .string v.p] 37)) zc 44).alloc (.cells (sc v false) 44)).alloc (.cells #[.int .i64 v.a, .int .i64 v.b, .int .i64 v.c] 57))
  have XS := ((Box.new ((W.alloc (.cells #[.int .i64 v.a, .int .i64 v.b, .int .i64 v.c, .string v.p] 37)).alloc (.cells zc 44)) (sc v false) 44).alloc (.cells #[.int .i64 v.a, .int .i64 v.b, .int .i64 v.c] 57))
  have XM := (Box.new (((W.alloc (.cells #[.int .i64 v.a, .int .i64 v.b, .int .i64 v.c, .string v.p] 37)).alloc (.cells zc 44)).alloc (.cells (sc v false) 44)) #[.int .i64 v.a, .int .i64 v.b, .int .i64 v.c] 57)
  have z1 : (W.alloc (.cells #[.int .i64 v.a, .int .i64 v.b, .int .i64 v.c, .string v.p] 37)).heap.size = W.heap.size + 1 := by simp
  have z2 : ((W.alloc (.cells #[.int .i64 v.a, .int .i64 v.b, .int .i64 v.c, .string v.p] 37)).alloc (.cells zc 44)).heap.size = W.heap.size + 1 + 1 := by simp
  have z3 : (((W.alloc (.cells #[.int .i64 v.a, .int .i64 v.b, .int .i64 v.c, .string v.p] 37)).alloc (.cells zc 44)).alloc (.cells (sc v false) 44)).heap.size = W.heap.size + 1 + 1 + 1 := by simp
  rw [z1] at XR
  rw [z2] at XS
  rw [z3] at XM
  clear z1 z2 z3
  generalize ((((W.alloc (.cells #[.int .i64 v.a, .int .i64 v.b, .int .i64 v.c, .string v.p] 37)).alloc (.cells zc 44)).alloc (.cells (sc v false) 44)).alloc (.cells #[.int .i64 v.a, .int .i64 v.b, .int .i64 v.c] 57)) = W4 at *
  have HXR := hide XR
  have HXS := hide XS
  have HXM := hide XM
  have HB4 := hide hB4
  clear XR XS XM hB4
  go_loopw [1] (fun x wr => ∃ k : Int, x = .int .i64 k ∧ (k = -1 ∨ k = 0 ∨ k = 1 ∨ k = 2) ∧ wr = W4 ∧ Hid (bumpAt v k0 = bumpAt v k)) (fun x _ => (RowKit.intOf x + 1).toNat)
  case atStart => exact ⟨k0, rfl, by omega, rfl, hide rfl⟩
  case round =>
    obtain ⟨k, rfl, hk, rfl, HK⟩ := hrel
    obtain ⟨_, cM, fM⟩ := HXM.out
    obtain ⟨_, cS, fS⟩ := HXS.out
    obtain ⟨_, cR, fR⟩ := HXR.out
    rcases hk with rfl | rfl | rfl | rfl
    · rw [bumpAt_n] at HK
      go_wp2_with fail
      have hb9 := HB4.out
      exact bodyPost_ret (v := (pt (some (v, false), none)).val) (by simp [results, Tryz.results104, go_sem, *]; exact ⟨rfl, rfl, rfl, rfl, rfl, rfl, rfl, rfl, rfl, rfl, rfl⟩) rfl ⟨by rw [HK.out], (by repeat (first | with_reducible assumption | with_reducible exact Below.refl _ _ | with_reducible refine Below.setCell ?_ (by first | exact Nat.le_refl _ | (simp; done) | (simp; omega)) _ | with_reducible refine bal ?_ _ | with_reducible refine Below.alloc ?_ (by first | exact Nat.le_refl _ | (simp; done) | (simp; omega)) _ | with_reducible refine Below.drew ?_))⟩
    · rw [bumpAt_0] at HK
      by_cases hx : v.a = 999999
      · rw [if_pos hx] at HK
        go_wp2_with fail
        go_roundw
        case rel => exact ⟨-1, by first | rfl | go_num, by omega, by first | rfl | trivial, HK⟩
        case measure => simp [RowKit.intOf]
      · rw [if_neg hx] at HK
        have hx2 : (v.a == 999999) = false := by simpa using hx
        go_wp2_with fail
        go_loopw [7] (fun x wq => ∃ (i : Nat) (x0 x1 x2 : Int), x = .int .i64 i ∧ Hid (Box wq (W.heap.size + 1) zc) ∧ Hid (Box wq (W.heap.size + 1 + 1) (sc v false)) ∧ Hid (Box wq (W.heap.size + 1 + 1 + 1) #[.int .i64 x0, .int .i64 x1, .int .i64 x2]) ∧ Hid (RowKit.Below W.heap.size W wq) ∧ ((i = 0 ∧ x0 = v.a ∧ x1 = v.b ∧ x2 = v.c) ∨ (i = 1 ∧ x0 = v.a + 1 ∧ x1 = v.b ∧ x2 = v.c) ∨ (i = 2 ∧ x0 = v.a + 1 ∧ x1 = 0 ∧ x2 = v.c) ∨ (i = 3 ∧ x0 = v.a + 1 ∧ x1 = 0 ∧ x2 = 0))) (fun x _ => 3 - (RowKit.intOf x).toNat)
        case atStart => exact ⟨0, v.a, v.b, v.c, rfl, HXR, HXS, HXM, HB4, .inl ⟨rfl, rfl, rfl, rfl⟩⟩
        case round =>
          clear cM fM cS fS cR fR
          obtain ⟨i, x0, x1, x2, rfl, YR, YS, YM, HB, hst⟩ := hrel
          obtain ⟨_, cM, fM⟩ := YM.out
          obtain ⟨_, cS, fS⟩ := YS.out
          obtain ⟨_, cR, fR⟩ := YR.out
          rcases hst with ⟨rfl, rfl, rfl, rfl⟩ | ⟨rfl, rfl, rfl, rfl⟩ | ⟨rfl, rfl, rfl, rfl⟩ | ⟨rfl, rfl, rfl, rfl⟩
          · go_wp2_with fail
            go_roundw
            case rel => exact ⟨1, v.a + 1, v.b, v.c, by go_num, hide (YR.out.kept (grownBy_setCell _ _ _ _) (fun e => by have := Option.some.inj e; omega)), hide (YS.out.kept (grownBy_setCell _ _ _ _) (fun e => by have := Option.some.inj e; omega)), hide (YM.out.set 0 _ (by simp)), hide (HB.out.setCell (by simp; omega) _), .inr (.inl ⟨rfl, rfl, rfl, rfl⟩)⟩
            case measure => simp [RowKit.intOf]
          · go_wp2_with fail
            go_roundw
            case rel => exact ⟨2, v.a + 1, 0, v.c, by go_num, hide (YR.out.kept (grownBy_setCell _ _ _ _) (fun e => by have := Option.some.inj e; omega)), hide (YS.out.kept (grownBy_setCell _ _ _ _) (fun e => by have := Option.some.inj e; omega)), hide (YM.out.set 1 _ (by simp)), hide (HB.out.setCell (by simp; omega) _), .inr (.inr (.inl ⟨rfl, rfl, rfl, rfl⟩))⟩
            case measure => simp [RowKit.intOf]
          · go_wp2_with fail
            go_roundw
            case rel => exact ⟨3, v.a + 1, 0, 0, by go_num, hide (YR.out.kept (grownBy_setCell _ _ _ _) (fun e => by have := Option.some.inj e; omega)), hide (YS.out.kept (grownBy_setCell _ _ _ _) (fun e => by have := Option.some.inj e; omega)), hide (YM.out.set 2 _ (by simp)), hide (HB.out.setCell (by simp; omega) _), .inr (.inr (.inr (⟨rfl, rfl, rfl, rfl⟩)))⟩
            case measure => simp [RowKit.intOf]
          · go_wp2_with fail
            have hb9 := HB.out
            exact bodyPost_ret (v := (pt (some (v, false), Sp.firstC (v.a + 1) (0) (0))).val) (by simp [results, Tryz.results104, go_sem, *]; exact ⟨rfl, rfl, rfl, rfl, rfl, rfl, rfl, rfl, rfl, rfl, rfl⟩) rfl ⟨by rw [HK.out], (by repeat (first | with_reducible assumption | with_reducible exact Below.refl _ _ | with_reducible refine Below.setCell ?_ (by first | exact Nat.le_refl _ | (simp; done) | (simp; omega)) _ | with_reducible refine bal ?_ _ | with_reducible refine Below.alloc ?_ (by first | exact Nat.le_refl _ | (simp; done) | (simp; omega)) _ | with_reducible refine Below.drew ?_))⟩
    · rw [bumpAt_1] at HK
      by_cases hx : v.b = 999999
      · rw [if_pos hx] at HK
        go_wp2_with fail
        go_roundw
        case rel => exact ⟨0, by first | rfl | go_num, by omega, by first | rfl | trivial, HK⟩
        case measure => simp [RowKit.intOf]
      · rw [if_neg hx] at HK
        have hx2 : (v.b == 999999) = false := by simpa using hx
        go_wp2_with fail
        go_loopw [7] (fun x wq => ∃ (i : Nat) (x0 x1 x2 : Int), x = .int .i64 i ∧ Hid (Box wq (W.heap.size + 1) zc) ∧ Hid (Box wq (W.heap.size + 1 + 1) (sc v false)) ∧ Hid (Box wq (W.heap.size + 1 + 1 + 1) #[.int .i64 x0, .int .i64 x1, .int .i64 x2]) ∧ Hid (RowKit.Below W.heap.size W wq) ∧ ((i = 0 ∧ x0 = v.a ∧ x1 = v.b ∧ x2 = v.c) ∨ (i = 1 ∧ x0 = v.a ∧ x1 = v.b ∧ x2 = v.c) ∨ (i = 2 ∧ x0 = v.a ∧ x1 = v.b + 1 ∧ x2 = v.c) ∨ (i = 3 ∧ x0 = v.a ∧ x1 = v.b + 1 ∧ x2 = 0))) (fun x _ => 3 - (RowKit.intOf x).toNat)
        case atStart => exact ⟨0, v.a, v.b, v.c, rfl, HXR, HXS, HXM, HB4, .inl ⟨rfl, rfl, rfl, rfl⟩⟩
        case round =>
          clear cM fM cS fS cR fR
          obtain ⟨i, x0, x1, x2, rfl, YR, YS, YM, HB, hst⟩ := hrel
          obtain ⟨_, cM, fM⟩ := YM.out
          obtain ⟨_, cS, fS⟩ := YS.out
          obtain ⟨_, cR, fR⟩ := YR.out
          rcases hst with ⟨rfl, rfl, rfl, rfl⟩ | ⟨rfl, rfl, rfl, rfl⟩ | ⟨rfl, rfl, rfl, rfl⟩ | ⟨rfl, rfl, rfl, rfl⟩
          · go_wp2_with fail
            go_roundw
            case rel => exact ⟨1, v.a, v.b, v.c, by go_num, YR, YS, YM, HB, .inr (.inl ⟨rfl, rfl, rfl, rfl⟩)⟩
            case measure => simp [RowKit.intOf]
          · go_wp2_with fail
            go_roundw
            case rel => exact ⟨2, v.a, v.b + 1, v.c, by go_num, hide (YR.out.kept (grownBy_setCell _ _ _ _) (fun e => by have := Option.some.inj e; omega)), hide (YS.out.kept (grownBy_setCell _ _ _ _) (fun e => by have := Option.some.inj e; omega)), hide (YM.out.set 1 _ (by simp)), hide (HB.out.setCell (by simp; omega) _), .inr (.inr (.inl ⟨rfl, rfl, rfl, rfl⟩))⟩
            case measure => simp [RowKit.intOf]
          · go_wp2_with fail
            go_roundw
            case rel => exact ⟨3, v.a, v.b + 1, 0, by go_num, hide (YR.out.kept (grownBy_setCell _ _ _ _) (fun e => by have := Option.some.inj e; omega)), hide (YS.out.kept (grownBy_setCell _ _ _ _) (fun e => by have := Option.some.inj e; omega)), hide (YM.out.set 2 _ (by simp)), hide (HB.out.setCell (by simp; omega) _), .inr (.inr (.inr (⟨rfl, rfl, rfl, rfl⟩)))⟩
            case measure => simp [RowKit.intOf]
          · go_wp2_with fail
            have hb9 := HB.out
            exact bodyPost_ret (v := (pt (some (v, false), Sp.firstC (v.a) (v.b + 1) (0))).val) (by simp [results, Tryz.results104, go_sem, *]; exact ⟨rfl, rfl, rfl, rfl, rfl, rfl, rfl, rfl, rfl, rfl, rfl⟩) rfl ⟨by rw [HK.out], (by repeat (first | with_reducible assumption | with_reducible exact Below.refl _ _ | with_reducible refine Below.setCell ?_ (by first | exact Nat.le_refl _ | (simp; done) | (simp; omega)) _ | with_reducible refine bal ?_ _ | with_reducible refine Below.alloc ?_ (by first | exact Nat.le_refl _ | (simp; done) | (simp; omega)) _ | with_reducible refine Below.drew ?_))⟩
    · rw [bumpAt_2] at HK
      by_cases hx : v.c = 999999
      · rw [if_pos hx] at HK
        go_wp2_with fail
        go_roundw
        case rel => exact ⟨1, by first | rfl | go_num, by omega, by first | rfl | trivial, HK⟩
        case measure => simp [RowKit.intOf]
      · rw [if_neg hx] at HK
        have hx2 : (v.c == 999999) = false := by simpa using hx
        go_wp2_with fail
        go_loopw [7] (fun x wq => ∃ (i : Nat) (x0 x1 x2 : Int), x = .int .i64 i ∧ Hid (Box wq (W.heap.size + 1) zc) ∧ Hid (Box wq (W.heap.size + 1 + 1) (sc v false)) ∧ Hid (Box wq (W.heap.size + 1 + 1 + 1) #[.int .i64 x0, .int .i64 x1, .int .i64 x2]) ∧ Hid (RowKit.Below W.heap.size W wq) ∧ ((i = 0 ∧ x0 = v.a ∧ x1 = v.b ∧ x2 = v.c) ∨ (i = 1 ∧ x0 = v.a ∧ x1 = v.b ∧ x2 = v.c) ∨ (i = 2 ∧ x0 = v.a ∧ x1 = v.b ∧ x2 = v.c) ∨ (i = 3 ∧ x0 = v.a ∧ x1 = v.b ∧ x2 = v.c + 1))) (fun x _ => 3 - (RowKit.intOf x).toNat)
        case atStart => exact ⟨0, v.a, v.b, v.c, rfl, HXR, HXS, HXM, HB4, .inl ⟨rfl, rfl, rfl, rfl⟩⟩
        case round =>
          clear cM fM cS fS cR fR
          obtain ⟨i, x0, x1, x2, rfl, YR, YS, YM, HB, hst⟩ := hrel
          obtain ⟨_, cM, fM⟩ := YM.out
          obtain ⟨_, cS, fS⟩ := YS.out
          obtain ⟨_, cR, fR⟩ := YR.out
          rcases hst with ⟨rfl, rfl, rfl, rfl⟩ | ⟨rfl, rfl, rfl, rfl⟩ | ⟨rfl, rfl, rfl, rfl⟩ | ⟨rfl, rfl, rfl, rfl⟩
          · go_wp2_with fail
            go_roundw
            case rel => exact ⟨1, v.a, v.b, v.c, by go_num, YR, YS, YM, HB, .inr (.inl ⟨rfl, rfl, rfl, rfl⟩)⟩
            case measure => simp [RowKit.intOf]
          · go_wp2_with fail
            go_roundw
            case rel => exact ⟨2, v.a, v.b, v.c, by go_num, YR, YS, YM, HB, .inr (.inr (.inl ⟨rfl, rfl, rfl, rfl⟩))⟩
            case measure => simp [RowKit.intOf]
          · go_wp2_with fail
            go_roundw
            case rel => exact ⟨3, v.a, v.b, v.c + 1, by go_num, hide (YR.out.kept (grownBy_setCell _ _ _ _) (fun e => by have := Option.some.inj e; omega)), hide (YS.out.kept (grownBy_setCell _ _ _ _) (fun e => by have := Option.some.inj e; omega)), hide (YM.out.set 2 _ (by simp)), hide (HB.out.setCell (by simp; omega) _), .inr (.inr (.inr (⟨rfl, rfl, rfl, rfl⟩)))⟩
            case measure => simp [RowKit.intOf]
          · go_wp2_with fail
            have hb9 := HB.out
            exact bodyPost_ret (v := (pt (some (v, false), Sp.firstC (v.a) (v.b) (v.c + 1))).val) (by simp [results, Tryz.results104, go_sem, *]; exact ⟨rfl, rfl, rfl, rfl, rfl, rfl, rfl, rfl, rfl, rfl, rfl⟩) rfl ⟨by rw [HK.out], (by repeat (first | with_reducible assumption | with_reducible exact Below.refl _ _ | with_reducible refine Below.setCell ?_ (by first | exact Nat.le_refl _ | (simp; done) | (simp; omega)) _ | with_reducible refine bal ?_ _ | with_reducible refine Below.alloc ?_ (by first | exact Nat.le_refl _ | (simp; done) | (simp; omega)) _ | with_reducible refine Below.drew ?_))⟩
end Go.Proofs.YtninheehoabbbaaGreatDoor
