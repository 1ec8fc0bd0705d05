/-
  Contract of the third law's known.
-/
import Derived.Test.YtninheehoabbbaaGreatDoorK1
namespace Go.Proofs.YtninheehoabbbaaGreatDoor
set_option linter.unusedSimpArgs false
set_option linter.unusedVariables false
open Go.RowKit Go.Vr Go.Sort Go.Tx Go.Lib
attribute [local go_sem] setCellDrewN allocDrewN

theorem k3_cparse (W : World) (he : Env W) : Calls Tryz.prog 7 #[.string ⟨#[94, 118, 49, 46, 50, 46, 51]⟩] W fun e w' => ∃ ad cp, e = .returned (.tuple #[.slice ad 1 cp, .int .i64 0, .int .i64 0]) ∧ ERow ES w' ad 1 [kS] ∧ RowKit.Below W.heap.size W w' := by
  refine (sparse_any _ W (by decide) k3_ia he).mono ?_
  rintro e w' ⟨h, hb⟩
  rw [k3_parse] at h
  obtain ⟨v', rfl, ho⟩ : ∃ v', e = .returned (.tuple #[v', .int .i64 0, .int .i64 0]) ∧ EOwn ES w' W.heap.size v' [kS] := h
  obtain ⟨ad, cp, rfl, _, _, hr⟩ := ho.any
  exact ⟨ad, cp, rfl, hr, hb⟩
theorem k3_cver (W : World) : Calls Tryz.prog 10 #[.string ⟨#[118, 49, 46, 57, 46, 48]⟩] W fun e w' => e = .returned (.tuple #[ver 1 9 0 ⟨#[]⟩, .bool true]) ∧ RowKit.Below W.heap.size W w' := by
  have h := rparse_any ⟨#[118, 49, 46, 57, 46, 48]⟩ W (by decide)
  rw [k3_ver] at h
  exact h
theorem k3_cnil (W : World) (he : Env W) : Calls Tryz.prog 11 #[.slice none 0 0] W fun e w' => ∃ g cp, e = .returned (.slice (some ⟨g, 0, none⟩) 1 cp) ∧ w'.cell? ⟨g, 10, none⟩ = some (.bool true) ∧ RowKit.Below W.heap.size W w' := by
  refine (not_any none 0 0 [] W (ERow.none W) (by omega) k3_oknil he).mono ?_
  rintro e w' ⟨v', rfl, ho, hb⟩
  rw [k3_notn] at ho
  rcases ho.form with ⟨_, h⟩ | ⟨g, cap, rfl, _, _, _, _, hr⟩
  · exact nomatch h
  · exact ⟨g, cap, rfl, hr.at_ 0 (Sp.start, none) rfl 10 _ rfl, hb⟩
theorem k3_ctext (W : World) (ad : Option Addr) (cp : Nat) (he : Env W) (h : ERow ES W ad 1 [kS]) : Calls Tryz.prog 12 #[.slice ad 1 cp] W fun e w' => e = .returned (.string ⟨#[91, 118, 49, 46, 50, 46, 51, 44, 118, 50, 46, 48, 46, 48, 45, 48, 41]⟩) ∧ RowKit.Below W.heap.size W w' := by
  have := stext_any ad 1 cp [kS] W h (by omega) k3_ok he
  rw [k3_text] at this
  exact this
theorem k3_ctextn (W : World) (he : Env W) : Calls Tryz.prog 12 #[.slice none 0 0] W fun e w' => e = .returned (.string ⟨#[45]⟩) ∧ RowKit.Below W.heap.size W w' := by
  have := stext_any none 0 0 [] W (ERow.none W) (by omega) k3_oknil he
  rw [k3_none] at this
  exact this
theorem k3_chas (W : World) (ad : Option Addr) (cp : Nat) (he : Env W) (h : ERow ES W ad 1 [kS]) : Calls Tryz.prog 13 #[.slice ad 1 cp, ver 1 9 0 ⟨#[]⟩] W fun e w' => e = .returned (.bool true) ∧ RowKit.Below W.heap.size W w' := by
  have := has_any ad 1 cp [kS] kV W h (by omega) k3_ok k3_vok he
  rw [k3_has] at this
  exact this
theorem k3_chasn (W : World) (ad : Option Addr) (cp : Nat) (he : Env W) (h : ERow ES W ad 2 kN) : Calls Tryz.prog 13 #[.slice ad 2 cp, ver 1 9 0 ⟨#[]⟩] W fun e w' => e = .returned (.bool false) ∧ RowKit.Below W.heap.size W w' := by
  have := has_any ad 2 cp kN kV W h (by omega) k3_okn k3_vok he
  rw [k3_hasn] at this
  exact this
theorem k3_cnot (W : World) (ad : Option Addr) (cp : Nat) (he : Env W) (h : ERow ES W ad 1 [kS]) : Calls Tryz.prog 11 #[.slice ad 1 cp] W fun e w' => ∃ a2 c2, e = .returned (.slice a2 2 c2) ∧ ERow ES w' a2 2 kN ∧ RowKit.Below W.heap.size W w' := by
  refine (not_any ad 1 cp [kS] W h (by omega) k3_ok he).mono ?_
  rintro e w' ⟨v', rfl, ho, hb⟩
  rw [k3_not] at ho
  obtain ⟨a2, c2, rfl, _, _, hr⟩ := ho.any
  exact ⟨a2, c2, rfl, hr, hb⟩
theorem k3_cand (W : World) (ad : Option Addr) (cp : Nat) (he : Env W) (h : ERow ES W ad 1 [kS]) : Calls Tryz.prog 14 #[.slice ad 1 cp, .slice none 0 0] W fun e w' => ∃ a2 c2, e = .returned (.slice a2 0 c2) ∧ RowKit.Below W.heap.size W w' := by
  refine (and_any ad none 1 0 cp 0 [kS] [] W h (ERow.none W) (by omega) k3_ok k3_oknil he).mono ?_
  rintro e w' ⟨v', rfl, ho, hb⟩
  rw [k3_and] at ho
  obtain ⟨a2, c2, rfl, _, _, hr⟩ := ho.any
  exact ⟨a2, c2, rfl, hb⟩
/-- Two, three slices laid for a call. -/
theorem rrow3 {W : World} {a b c : Sl} {l m k : List Sp.S} (T : TypeId) (h1 : ERow ES W a.a a.n l) (h2 : ERow ES W b.a b.n m) (h3 : ERow ES W c.a c.n k) :
    RRow (W.alloc (.cells #[a.val, b.val, c.val] T)) (some ⟨W.heap.size, 0, none⟩) 3 [l, m, k] := by
  have hb : RowKit.Below W.heap.size W (W.alloc (.cells #[a.val, b.val, c.val] T)) := (by repeat (first | with_reducible assumption | with_reducible exact Below.refl _ _ | with_reducible refine Below.setCell ?_ (by first | exact Nat.le_refl _ | (simp; done) | (simp; omega)) _ | with_reducible refine bal ?_ _ | with_reducible refine Below.alloc ?_ (by first | exact Nat.le_refl _ | (simp; done) | (simp; omega)) _ | with_reducible refine Below.drew ?_))
  refine ⟨[a, b, c], ⟨rfl, (fun e => nomatch e), fun x e j v hj => ?_⟩, h1.later hb, h2.later hb, h3.later hb, trivial⟩
  obtain rfl : ⟨W.heap.size, 0, .none⟩ = x := by simpa using e
  rw [addr_add, Nat.zero_add, (Box.new W _ T).c]
  simpa [El.encs, ER] using hj
theorem rrow2 {W : World} {a b : Sl} {l m : List Sp.S} (T : TypeId) (h1 : ERow ES W a.a a.n l) (h2 : ERow ES W b.a b.n m) :
    RRow (W.alloc (.cells #[a.val, b.val] T)) (some ⟨W.heap.size, 0, none⟩) 2 [l, m] := by
  have hb : RowKit.Below W.heap.size W (W.alloc (.cells #[a.val, b.val] T)) := (by repeat (first | with_reducible assumption | with_reducible exact Below.refl _ _ | with_reducible refine Below.setCell ?_ (by first | exact Nat.le_refl _ | (simp; done) | (simp; omega)) _ | with_reducible refine bal ?_ _ | with_reducible refine Below.alloc ?_ (by first | exact Nat.le_refl _ | (simp; done) | (simp; omega)) _ | with_reducible refine Below.drew ?_))
  refine ⟨[a, b], ⟨rfl, (fun e => nomatch e), fun x e j v hj => ?_⟩, h1.later hb, h2.later hb, trivial⟩
  obtain rfl : ⟨W.heap.size, 0, .none⟩ = x := by simpa using e
  rw [addr_add, Nat.zero_add, (Box.new W _ T).c]
  simpa [El.encs, ER] using hj
theorem k3_cor (W : World) (ad : Option Addr) (cp : Nat) (he : Env W) (h : ERow ES W ad 1 [kS]) : Calls Tryz.prog 15 #[.slice (some ⟨W.heap.size, 0, none⟩) 3 3] (W.alloc (.cells #[.slice ad 1 cp, .slice ad 1 cp, .slice ad 1 cp] 28)) fun e w' => ∃ a2 c2, e = .returned (.slice a2 1 c2) ∧ RowKit.Below W.heap.size W w' := by
  have hb : RowKit.Below W.heap.size W (W.alloc (.cells #[.slice ad 1 cp, .slice ad 1 cp, .slice ad 1 cp] 28)) := (by repeat (first | with_reducible assumption | with_reducible exact Below.refl _ _ | with_reducible refine Below.setCell ?_ (by first | exact Nat.le_refl _ | (simp; done) | (simp; omega)) _ | with_reducible refine bal ?_ _ | with_reducible refine Below.alloc ?_ (by first | exact Nat.le_refl _ | (simp; done) | (simp; omega)) _ | with_reducible refine Below.drew ?_))
  have hr := rrow3 (a := ⟨ad, 1, cp⟩) (b := ⟨ad, 1, cp⟩) (c := ⟨ad, 1, cp⟩) 28 h h h
  refine (sor_any (some ⟨W.heap.size, 0, none⟩) 3 3 [[kS], [kS], [kS]] _ hr (by omega) (by decide) ?_ (he.later hb)).mono ?_
  · intro s hs
    have : s = kS := by simpa using hs
    subst this
    exact k3_ok _ (by simp)
  rintro e w' ⟨v', rfl, ho, b2⟩
  rw [k3_or] at ho
  obtain ⟨a2, c2, rfl, _, _, _⟩ := ho.any
  exact ⟨a2, c2, rfl, step hb b2⟩

set_option maxHeartbeats 8000000 in
set_option maxRecDepth 100000 in
theorem known3_any (w : World) (he : Env w) :
    Calls Tryz.prog 4 #[] w fun e w' => e = .returned (.bool true) ∧ RowKit.Below w.heap.size w w' := by
  have HE := hide he
  have CP := hide (k3_cparse w he)
  have CV : Hid (∀ W : World, Calls Tryz.prog 10 #[.string ⟨#[118, 49, 46, 57, 46, 48]⟩] W fun e w' => e = .returned (.tuple #[ver 1 9 0 ⟨#[]⟩, .bool true]) ∧ RowKit.Below W.heap.size W w') := k3_cver
  clear he
  go_enter Tryz.func4, Tryz.ntmps4
  go_wp2_with fail
  refine CP.out.mono ?_
  rintro e w1 ⟨ad, cp, rfl, r1, b1⟩
  have HR1 := hide r1
  have HB1 := hide b1
  clear CP r1 b1
  go_wp2_with fail
  refine (CV.out _).mono ?_
  rintro e w2 ⟨rfl, b2⟩
  have HR2 := hide (HR1.out.later b2)
  have HB2 := hide (step HB1.out b2)
  have X2 := hide (Box.new w2 #[.int .i64 1, .int .i64 9, .int .i64 0, .string ⟨#[]⟩] 37)
  have ba : RowKit.Below w2.heap.size w2 (w2.alloc (.cells #[.int .i64 1, .int .i64 9, .int .i64 0, .string ⟨#[]⟩] 37)) := (by repeat (first | with_reducible assumption | with_reducible exact Below.refl _ _ | with_reducible refine Below.setCell ?_ (by first | exact Nat.le_refl _ | (simp; done) | (simp; omega)) _ | with_reducible refine bal ?_ _ | with_reducible refine Below.alloc ?_ (by first | exact Nat.le_refl _ | (simp; done) | (simp; omega)) _ | with_reducible refine Below.drew ?_))
  have HB3 := hide (step HB2.out ba)
  have HR3 := hide (HR2.out.later ba)
  have CN := hide (k3_cnil _ (HE.out.later HB3.out))
  clear CV b2 HR1 HB1 HR2 HB2 ba
  go_wp2_with fail
  refine CN.out.mono ?_
  rintro e w3 ⟨g, cpn, rfl, cg, b3⟩
  have HB4 := hide (step HB3.out b3)
  have HR4 := hide (HR3.out.later b3)
  have X4 := X2.out.later b3
  have E4 := hide (HE.out.later HB4.out)
  generalize w2.heap.size = N at *
  have KX : ∀ w', RowKit.Below w3.heap.size w3 w' → ∀ i, w'.cell? ⟨N, i, none⟩ = (#[.int .i64 1, .int .i64 9, .int .i64 0, .string ⟨#[]⟩] : Array Value)[i]? := fun w' h => (X4.later h).c
  have KG : ∀ w', RowKit.Below w3.heap.size w3 w' → w'.cell? ⟨g, 10, none⟩ = some (.bool true) := fun w' h => cellLater h cg
  have hB0 := RowKit.Below.refl w3.heap.size w3
  clear X2 X4 CN b3 HB3 HR3 cg
  go_wp2_with fail
  go_region_held3 (fun w' => RowKit.Below w3.heap.size w3 w') (first | assumption | exact (by repeat (first | with_reducible assumption | with_reducible exact Below.refl _ _ | with_reducible refine Below.setCell ?_ (by first | exact Nat.le_refl _ | (simp; done) | (simp; omega)) _ | with_reducible refine bal ?_ _ | with_reducible refine Below.alloc ?_ (by first | exact Nat.le_refl _ | (simp; done) | (simp; omega)) _ | with_reducible refine Below.drew ?_))) (first
    | (go_at_call_of 12 (Value.slice none 0 0); refine (k3_ctextn _ (E4.out.later (by assumption))).mono ?_; rintro e w5 ⟨rfl, b5⟩; have b5 : RowKit.Below w3.heap.size w3 w5 := (by refine Below.trans ?_ (Below.mono b5 ?_); rotate_left; exact Below.size (by with_reducible assumption); with_reducible assumption))
    | (go_at_call 12; refine (k3_ctext _ _ _ (E4.out.later (by first | assumption | exact (by repeat (first | with_reducible assumption | with_reducible exact Below.refl _ _ | with_reducible refine Below.setCell ?_ (by first | exact Nat.le_refl _ | (simp; done) | (simp; omega)) _ | with_reducible refine bal ?_ _ | with_reducible refine Below.alloc ?_ (by first | exact Nat.le_refl _ | (simp; done) | (simp; omega)) _ | with_reducible refine Below.drew ?_)))) (HR4.out.later (by first | assumption | exact (by repeat (first | with_reducible assumption | with_reducible exact Below.refl _ _ | with_reducible refine Below.setCell ?_ (by first | exact Nat.le_refl _ | (simp; done) | (simp; omega)) _ | with_reducible refine bal ?_ _ | with_reducible refine Below.alloc ?_ (by first | exact Nat.le_refl _ | (simp; done) | (simp; omega)) _ | with_reducible refine Below.drew ?_))))).mono ?_; rintro e w5 ⟨rfl, b5⟩; have b5 : RowKit.Below w3.heap.size w3 w5 := (by refine Below.trans ?_ (Below.mono b5 ?_); rotate_left; exact Below.size (by with_reducible assumption); with_reducible assumption))
    | (go_at_call 11; refine (k3_cnot _ _ _ (E4.out.later (by assumption)) (HR4.out.later (by assumption))).mono ?_; rintro e w5 ⟨a2, c2, rfl, r5, b5⟩; have HR5 := hide r5; clear r5; have b5 : RowKit.Below w3.heap.size w3 w5 := (by refine Below.trans ?_ (Below.mono b5 ?_); rotate_left; exact Below.size (by with_reducible assumption); with_reducible assumption))
    | (go_at_call 14; refine (k3_cand _ _ _ (E4.out.later (by assumption)) (HR4.out.later (by assumption))).mono ?_; rintro e w5 ⟨a3, c3, rfl, b5⟩; have b5 : RowKit.Below w3.heap.size w3 w5 := (by refine Below.trans ?_ (Below.mono b5 ?_); rotate_left; exact Below.size (by with_reducible assumption); with_reducible assumption))
    | (go_at_call 15; refine (k3_cor _ _ _ (E4.out.later (by assumption)) (HR4.out.later (by assumption))).mono ?_; rintro e w5 ⟨a4, c4, rfl, b5⟩; have b5 : RowKit.Below w3.heap.size w3 w5 := (by refine Below.trans ?_ (Below.mono b5 ?_); rotate_left; exact Below.size (by with_reducible assumption); with_reducible assumption))
    | (go_at_call 13; refine (k3_chasn _ _ _ (E4.out.later (by assumption)) HR5.out).mono ?_; rintro e w5 ⟨rfl, b5⟩; have b5 : RowKit.Below w3.heap.size w3 w5 := (by refine Below.trans ?_ (Below.mono b5 ?_); rotate_left; exact Below.size (by with_reducible assumption); with_reducible assumption))
    | (go_at_call 13; refine (k3_chas _ _ _ (E4.out.later (by assumption)) (HR4.out.later (by assumption))).mono ?_; rintro e w5 ⟨rfl, b5⟩; have b5 : RowKit.Below w3.heap.size w3 w5 := (by refine Below.trans ?_ (Below.mono b5 ?_); rotate_left; exact Below.size (by with_reducible assumption); with_reducible assumption)))
  rename_i hHeld
  go_wp2_with fail
  go_ret
  exact ⟨rfl, HB4.out.trans (hHeld.mono HB4.out.size)⟩
end Go.Proofs.YtninheehoabbbaaGreatDoor
