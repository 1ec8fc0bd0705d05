/-
  Contracts of a place's cmp, later, put, only.
-/
import Derived.Test.YtninheehoabbbaaGreatDoorN1
import Derived.Test.YtninheehoabbbaaGreatDoorU10
namespace Go.Proofs.YtninheehoabbbaaGreatDoor
set_option linter.unusedSimpArgs false
set_option linter.unusedVariables false
open Go.RowKit Go.Vr Go.Sort Go.Tx Go.Lib
attribute [local go_sem] setCellDrewN allocDrewN

/-- A variable's block. -/
structure Box (w : World) (N : Nat) (vs : Array Value) : Prop where
  lt : N < w.heap.size
  c : ∀ i, w.cell? ⟨N, i, none⟩ = vs[i]?
  f : ∀ i, w.frozen? ⟨N, i, none⟩ = false
theorem Box.new (w : World) (vs : Array Value) (T : TypeId) : Box (w.alloc (.cells vs T)) w.heap.size vs :=
  ⟨by simp, fun i => by simp [go_sem], fun i => by simp [go_sem]⟩
theorem Box.later {w w' : World} {N : Nat} {vs : Array Value} (h : Box w N vs) (hb : Below w.heap.size w w') : Box w' N vs := by
  obtain ⟨h1, h2⟩ := bcell hb
  exact ⟨Nat.lt_of_lt_of_le h.lt hb.size, fun i => by rw [h1 _ _ h.lt]; exact h.c i, fun i => by rw [h2 _ _ h.lt]; exact h.f i⟩
theorem Box.alloc {w : World} {N : Nat} {vs : Array Value} (h : Box w N vs) (o : Obj) : Box (w.alloc o) N vs := h.later (by repeat (first | with_reducible assumption | with_reducible exact Below.refl _ _ | with_reducible refine Below.setCell ?_ (by first | exact Nat.le_refl _ | (simp; done) | (simp; omega)) _ | with_reducible refine bal ?_ _ | with_reducible refine Below.alloc ?_ (by first | exact Nat.le_refl _ | (simp; done) | (simp; omega)) _ | with_reducible refine Below.drew ?_))
theorem Box.drew {w : World} {N : Nat} {vs : Array Value} (h : Box w N vs) : Box w.drew N vs := h.later (by repeat (first | with_reducible assumption | with_reducible exact Below.refl _ _ | with_reducible refine Below.setCell ?_ (by first | exact Nat.le_refl _ | (simp; done) | (simp; omega)) _ | with_reducible refine bal ?_ _ | with_reducible refine Below.alloc ?_ (by first | exact Nat.le_refl _ | (simp; done) | (simp; omega)) _ | with_reducible refine Below.drew ?_))
theorem Box.regrown {w : World} {N : Nat} {vs : Array Value} (h : Box w N vs) (d : Nat) (os : Array Obj) : Box (grow (redrawn w d) os) N vs := h.later (below_regrown w d os)

/-- A place as a value. -/
def valC : Sp.C → Value
  | none => cutv 0 0 0 ⟨#[]⟩ false true
  | some p => cutv p.1.a p.1.b p.1.c p.1.p p.2 false

set_option maxHeartbeats 4000000 in
theorem ccmp_some (v u : V) (x y : Bool) (hv : v.ok = true) (hu : u.ok = true) (w : World) (he : Env w) :
    Calls Tryz.prog 34 #[cutv v.a v.b v.c v.p x false, cutv u.a u.b u.c u.p y false] w fun e w' => e = .returned (.int .i64 (Sp.cmpC (some (v, x)) (some (u, y)))) ∧ Below w.heap.size w w' := by
  have HX : Hid (Sp.cmpC (some (v, x)) (some (u, y)) = seq (cmpV v u) (Sp.cmpB x y)) := rfl
  have CV : Hid (∀ W, Env W → Calls Tryz.prog 61 #[ver v.a v.b v.c v.p, ver u.a u.b u.c u.p] W fun e w' => e = .returned (.int .i64 (cmpV v u)) ∧ Below W.heap.size W w') := fun W hW => cmp_any v u W hv hu hW
  have HE := hide he
  clear hv hu he
  go_enter Tryz.func34, Tryz.ntmps34
  go_wp2_with fail
  have hB : Below w.heap.size w ((w.alloc (.cells #[.int .i64 v.a, .int .i64 v.b, .int .i64 v.c, .string v.p, .bool x, .bool false] 63)).alloc (.cells #[.int .i64 u.a, .int .i64 u.b, .int .i64 u.c, .string u.p, .bool y, .bool false] 63)) := (by repeat (first | with_reducible assumption | with_reducible exact Below.refl _ _ | with_reducible refine Below.setCell ?_ (by first | exact Nat.le_refl _ | (simp; done) | (simp; omega)) _ | with_reducible refine bal ?_ _ | with_reducible refine Below.alloc ?_ (by first | exact Nat.le_refl _ | (simp; done) | (simp; omega)) _ | with_reducible refine Below.drew ?_))
  have X := (Box.new w #[.int .i64 v.a, .int .i64 v.b, .int .i64 v.c, .string v.p, .bool x, .bool false] 63).alloc (.cells #[.int .i64 u.a, .int .i64 u.b, .int .i64 u.c, .string u.p, .bool y, .bool false] 63)
  have Y := Box.new (w.alloc (.cells #[.int .i64 v.a, .int .i64 v.b, .int .i64 v.c, .string v.p, .bool x, .bool false] 63)) #[.int .i64 u.a, .int .i64 u.b, .int .i64 u.c, .string u.p, .bool y, .bool false] 63
  have hs : (w.alloc (.cells #[.int .i64 v.a, .int .i64 v.b, .int .i64 v.c, .string v.p, .bool x, .bool false] 63)).heap.size = w.heap.size + 1 := by simp
  rw [hs] at Y
  clear hs
  generalize (w.alloc (.cells #[.int .i64 v.a, .int .i64 v.b, .int .i64 v.c, .string v.p, .bool x, .bool false] 63)).alloc (.cells #[.int .i64 u.a, .int .i64 u.b, .int .i64 u.c, .string u.p, .bool y, .bool false] 63) = W at *
  have EW := hide (HE.out.later hB)
  have KX : ∀ w', Below W.heap.size W w' → ∀ i, w'.cell? ⟨w.heap.size, i, none⟩ = (#[.int .i64 v.a, .int .i64 v.b, .int .i64 v.c, .string v.p, .bool x, .bool false] : Array Value)[i]? := fun w' h => (X.later h).c
  generalize hN : w.heap.size + 1 = N1 at *
  have KY : ∀ w', Below W.heap.size W w' → ∀ i, w'.cell? ⟨N1, i, none⟩ = (#[.int .i64 u.a, .int .i64 u.b, .int .i64 u.c, .string u.p, .bool y, .bool false] : Array Value)[i]? := fun w' h => (Y.later h).c
  have HB := hide hB
  have hB := Below.refl W.heap.size W
  clear X Y hN
  go_region_held3 (fun w' => Below W.heap.size W w') (first | assumption | exact (by repeat (first | with_reducible assumption | with_reducible exact Below.refl _ _ | with_reducible refine Below.setCell ?_ (by first | exact Nat.le_refl _ | (simp; done) | (simp; omega)) _ | with_reducible refine bal ?_ _ | with_reducible refine Below.alloc ?_ (by first | exact Nat.le_refl _ | (simp; done) | (simp; omega)) _ | with_reducible refine Below.drew ?_))) (first
    | (go_at_call 61; refine (CV.out _ (EW.out.later (by assumption))).mono ?_; rintro e w2 ⟨rfl, b2⟩; have b2 : Below W.heap.size W w2 := (by refine Below.trans ?_ (Below.mono b2 ?_); rotate_left; exact Below.size (by with_reducible assumption); with_reducible assumption))
    | (go_at_call 59; refine (cmpBool_raw _ _ _).mono ?_; rintro e w2 ⟨rfl, rfl⟩)
    | (go_at_call 60; refine (or2 _ _ _).mono ?_; rintro e w2 ⟨rfl, b3⟩; have b3 : Below W.heap.size W w2 := (by refine Below.trans ?_ (Below.mono b3 ?_); rotate_left; exact Below.size (by with_reducible assumption); with_reducible assumption)))
  rename_i hHeld
  go_wp2_with fail
  go_ret
  exact ⟨ret_int HX.out.symm, HB.out.trans (hHeld.mono HB.out.size)⟩
end Go.Proofs.YtninheehoabbbaaGreatDoor
