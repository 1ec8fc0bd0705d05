/-
  Contracts of a place's cmp at every place, of later, between, low, high, put, only.
  Contract of Not.
-/
import Derived.Test.YthihnpjbdjmbhaaGreatDoorG13

namespace Go.Proofs.YthihnpjbdjmbhaaGreatDoor
set_option linter.unusedSimpArgs false
set_option linter.unusedVariables false
open Go.RowKit Go.Vr Go.Sort Go.Tx Go.Lib
attribute [local go_sem] setCellDrewN allocDrewN

set_option maxHeartbeats 1000000 in
theorem ccmp_end (a b c : Int) (p : ByteArray) (x e1 : Bool) (a' b' c' : Int) (p' : ByteArray) (y e2 : Bool) (w : World) (h : (e1 || e2) = true) :
    Calls Tryz.prog 34 #[cutv a b c p x e1, cutv a' b' c' p' y e2] w fun e w' => e = .returned (.int .i64 (Sp.cmpB e1 e2)) ∧ Below w.heap.size w w' := by
  cases e1 <;> cases e2
  · exact absurd h (by decide)
  all_goals
    clear h
    go_enter Tryz.func34, Tryz.ntmps34
    go_wp2_with fail
    refine (cmpBool_raw _ _ _).mono ?_
    rintro e w1 ⟨rfl, rfl⟩
    go_wp2_with fail
    go_ret
    exact ⟨rfl, (by repeat (first | with_reducible assumption | with_reducible exact Below.refl _ _ | with_reducible refine Below.setCell ?_ (by first | exact Nat.le_refl _ | (simp; done) | (simp; omega)) _ | with_reducible refine bal ?_ _ | with_reducible refine Below.alloc ?_ (by first | exact Nat.le_refl _ | (simp; done) | (simp; omega)) _ | with_reducible refine Below.drew ?_))⟩
theorem ccmp_any (c d : Sp.C) (hc : Sp.okC c) (hd : Sp.okC d) (w : World) (he : Env w) :
    Calls Tryz.prog 34 #[valC c, valC d] w fun e w' => e = .returned (.int .i64 (Sp.cmpC c d)) ∧ Below w.heap.size w w' := by
  cases c with
  | none =>
    cases d with
    | none => exact ccmp_end 0 0 0 ⟨#[]⟩ false true 0 0 0 ⟨#[]⟩ false true w rfl
    | some q => exact ccmp_end 0 0 0 ⟨#[]⟩ false true q.1.a q.1.b q.1.c q.1.p q.2 false w rfl
  | some p =>
    cases d with
    | none => exact ccmp_end p.1.a p.1.b p.1.c p.1.p p.2 false 0 0 0 ⟨#[]⟩ false true w rfl
    | some q => exact ccmp_some p.1 q.1 p.2 q.2 (hc p rfl) (hd q rfl) w he

theorem low_any (s : Sp.S) (h : Sp.okS s) (w : World) :
    Calls Tryz.prog 25 #[valS s] w fun e w' => e = .returned (valC s.1) ∧ Below w.heap.size w w' := by
  obtain ⟨⟨p, hp⟩, _⟩ := h
  have e : valC s.1 = cutv (lo s).1.a (lo s).1.b (lo s).1.c (lo s).1.p (lo s).2 false := by unfold lo; rw [hp]; rfl
  rw [e, valS_is]
  exact low_raw _ _ _ _ _ _ _ _ _ _ _ w
theorem high_any (s : Sp.S) (w : World) :
    Calls Tryz.prog 26 #[valS s] w fun e w' => e = .returned (valC s.2) ∧ Below w.heap.size w w' := by
  rw [valS_is]
  cases h : s.2 with
  | none => exact high_open _ _ _ _ _ _ _ _ _ _ w
  | some q =>
    have e : hi s = q := by unfold hi; rw [h]; rfl
    rw [e]
    exact high_raw _ _ _ _ _ _ _ _ _ _ w
theorem between_any (c d : Sp.C) (h : ∃ p, c = some p) (w : World) :
    Calls Tryz.prog 53 #[valC c, valC d] w fun e w' => e = .returned (valS (c, d)) ∧ Below w.heap.size w w' := by
  obtain ⟨p, rfl⟩ := h
  cases d with
  | none => exact between_end p.1.a p.1.b p.1.c p.1.p 0 0 0 ⟨#[]⟩ p.2 false false w
  | some q => exact between_raw p.1.a p.1.b p.1.c p.1.p q.1.a q.1.b q.1.c q.1.p p.2 q.2 false w

/-- Its cells. -/
def encC : Sp.C → Array Value
  | none => #[.int .i64 0, .int .i64 0, .int .i64 0, .string ⟨#[]⟩, .bool false, .bool true]
  | some p => #[.int .i64 p.1.a, .int .i64 p.1.b, .int .i64 p.1.c, .string p.1.p, .bool p.2, .bool false]
/-- A place's parts. -/
structure Pl where
  a : Int
  b : Int
  c : Int
  p : ByteArray
  x : Bool
  e : Bool
abbrev Pl.val (q : Pl) : Value := cutv q.a q.b q.c q.p q.x q.e
def pl : Sp.C → Pl
  | none => ⟨0, 0, 0, ⟨#[]⟩, false, true⟩
  | some p => ⟨p.1.a, p.1.b, p.1.c, p.1.p, p.2, false⟩
theorem pl_val (c : Sp.C) : valC c = (pl c).val := by cases c <;> rfl

/-- Two, three variables' blocks behind a call. -/
theorem keep2 {w w1 : World} {x y : Array Value} {Tx Ty : TypeId} (hb : Below ((w.alloc (.cells x Tx)).alloc (.cells y Ty)).heap.size ((w.alloc (.cells x Tx)).alloc (.cells y Ty)) w1) :
    (∀ i, w1.cell? ⟨w.heap.size, i, none⟩ = x[i]?) ∧ (∀ i, w1.cell? ⟨w.heap.size + 1, i, none⟩ = y[i]?) ∧ (∀ i, w1.frozen? ⟨w.heap.size, i, none⟩ = false) ∧ (∀ i, w1.frozen? ⟨w.heap.size + 1, i, none⟩ = false) ∧ w.heap.size + 1 < w1.heap.size ∧ Below w.heap.size w w1 := by
  have X := ((Box.new w x Tx).alloc (.cells y Ty)).later hb
  have Y := (Box.new (w.alloc (.cells x Tx)) y Ty).later hb
  have e : (w.alloc (.cells x Tx)).heap.size = w.heap.size + 1 := by simp
  rw [e] at Y
  exact ⟨X.c, Y.c, X.f, Y.f, Y.lt, Below.trans ((by repeat (first | with_reducible assumption | with_reducible exact Below.refl _ _ | with_reducible refine Below.setCell ?_ (by first | exact Nat.le_refl _ | (simp; done) | (simp; omega)) _ | with_reducible refine bal ?_ _ | with_reducible refine Below.alloc ?_ (by first | exact Nat.le_refl _ | (simp; done) | (simp; omega)) _ | with_reducible refine Below.drew ?_))) (hb.mono (by simp; omega))⟩
theorem keep3 {w w1 : World} {x y z : Array Value} {Tx Ty Tz : TypeId} (hb : Below (((w.alloc (.cells x Tx)).alloc (.cells y Ty)).alloc (.cells z Tz)).heap.size (((w.alloc (.cells x Tx)).alloc (.cells y Ty)).alloc (.cells z Tz)) w1) :
    (∀ i, w1.cell? ⟨w.heap.size, i, none⟩ = x[i]?) ∧ (∀ i, w1.cell? ⟨w.heap.size + 1, i, none⟩ = y[i]?) ∧ (∀ i, w1.cell? ⟨w.heap.size + 1 + 1, i, none⟩ = z[i]?) ∧ (∀ i, w1.frozen? ⟨w.heap.size, i, none⟩ = false) ∧ (∀ i, w1.frozen? ⟨w.heap.size + 1, i, none⟩ = false) ∧ (∀ i, w1.frozen? ⟨w.heap.size + 1 + 1, i, none⟩ = false) ∧ w.heap.size + 1 + 1 < w1.heap.size ∧ Below w.heap.size w w1 := by
  have X := (((Box.new w x Tx).alloc (.cells y Ty)).alloc (.cells z Tz)).later hb
  have Y := ((Box.new (w.alloc (.cells x Tx)) y Ty).alloc (.cells z Tz)).later hb
  have Z := (Box.new ((w.alloc (.cells x Tx)).alloc (.cells y Ty)) z Tz).later hb
  have e : (w.alloc (.cells x Tx)).heap.size = w.heap.size + 1 := by simp
  have e2 : ((w.alloc (.cells x Tx)).alloc (.cells y Ty)).heap.size = w.heap.size + 1 + 1 := by simp
  rw [e] at Y
  rw [e2] at Z
  exact ⟨X.c, Y.c, Z.c, X.f, Y.f, Z.f, Z.lt, Below.trans ((by repeat (first | with_reducible assumption | with_reducible exact Below.refl _ _ | with_reducible refine Below.setCell ?_ (by first | exact Nat.le_refl _ | (simp; done) | (simp; omega)) _ | with_reducible refine bal ?_ _ | with_reducible refine Below.alloc ?_ (by first | exact Nat.le_refl _ | (simp; done) | (simp; omega)) _ | with_reducible refine Below.drew ?_))) (hb.mono (by simp; omega))⟩

set_option maxHeartbeats 4000000 in
theorem later_raw (q r : Pl) (k : Int) (w : World) (h : Hid (∀ W, Below w.heap.size w W → Calls Tryz.prog 34 #[q.val, r.val] W fun e w' => e = .returned (.int .i64 k) ∧ Below W.heap.size W w')) :
    Calls Tryz.prog 39 #[q.val, r.val] w fun e w' => e = .returned (if k < 0 then r.val else q.val) ∧ Below w.heap.size w w' := by
  obtain ⟨a, b, c, p, x, e1⟩ := q
  obtain ⟨a', b', c', p', y, e2⟩ := r
  by_cases hk : k < 0
  · rw [if_pos hk]
    go_enter Tryz.func39, Tryz.ntmps39
    go_wp2_with fail
    refine (h.out _ ((by repeat (first | with_reducible assumption | with_reducible exact Below.refl _ _ | with_reducible refine Below.setCell ?_ (by first | exact Nat.le_refl _ | (simp; done) | (simp; omega)) _ | with_reducible refine bal ?_ _ | with_reducible refine Below.alloc ?_ (by first | exact Nat.le_refl _ | (simp; done) | (simp; omega)) _ | with_reducible refine Below.drew ?_)))).mono ?_
    rintro e w1 ⟨rfl, b1⟩
    obtain ⟨c1, c2, c3, f1, f2, f3, lt, hB⟩ := keep3 b1
    clear b1 h
    go_wp2_with fail
    exact bodyPost_ret (by simp [results, Tryz.results39, go_sem, *]) rfl ⟨rfl, (by repeat (first | with_reducible assumption | with_reducible exact Below.refl _ _ | with_reducible refine Below.setCell ?_ (by first | exact Nat.le_refl _ | (simp; done) | (simp; omega)) _ | with_reducible refine bal ?_ _ | with_reducible refine Below.alloc ?_ (by first | exact Nat.le_refl _ | (simp; done) | (simp; omega)) _ | with_reducible refine Below.drew ?_))⟩
  · rw [if_neg hk]
    go_enter Tryz.func39, Tryz.ntmps39
    go_wp2_with fail
    refine (h.out _ ((by repeat (first | with_reducible assumption | with_reducible exact Below.refl _ _ | with_reducible refine Below.setCell ?_ (by first | exact Nat.le_refl _ | (simp; done) | (simp; omega)) _ | with_reducible refine bal ?_ _ | with_reducible refine Below.alloc ?_ (by first | exact Nat.le_refl _ | (simp; done) | (simp; omega)) _ | with_reducible refine Below.drew ?_)))).mono ?_
    rintro e w1 ⟨rfl, b1⟩
    obtain ⟨c1, c2, c3, f1, f2, f3, lt, hB⟩ := keep3 b1
    clear b1 h
    go_wp2_with fail
    exact bodyPost_ret (by simp [results, Tryz.results39, go_sem, *]) rfl ⟨rfl, (by repeat (first | with_reducible assumption | with_reducible exact Below.refl _ _ | with_reducible refine Below.setCell ?_ (by first | exact Nat.le_refl _ | (simp; done) | (simp; omega)) _ | with_reducible refine bal ?_ _ | with_reducible refine Below.alloc ?_ (by first | exact Nat.le_refl _ | (simp; done) | (simp; omega)) _ | with_reducible refine Below.drew ?_))⟩
theorem later_any (c d : Sp.C) (hc : Sp.okC c) (hd : Sp.okC d) (w : World) (he : Env w) :
    Calls Tryz.prog 39 #[valC c, valC d] w fun e w' => e = .returned (valC (Sp.later Sp.cmpC c d)) ∧ Below w.heap.size w w' := by
  have h := later_raw (pl c) (pl d) (Sp.cmpC c d) w (fun W hW => by rw [← pl_val, ← pl_val]; exact ccmp_any c d hc hd W (he.later hW))
  have e : valC (Sp.later Sp.cmpC c d) = if Sp.cmpC c d < 0 then valC d else valC c := by unfold Sp.later; split <;> rfl
  rw [e, pl_val, pl_val]
  exact h

/-- A span's parts. -/
structure Pt where
  a : Int
  b : Int
  c : Int
  p : ByteArray
  a' : Int
  b' : Int
  c' : Int
  p' : ByteArray
  x : Bool
  y : Bool
  z : Bool
abbrev Pt.val (q : Pt) : Value := spv q.a q.b q.c q.p q.a' q.b' q.c' q.p' q.x q.y q.z
def pt (s : Sp.S) : Pt := ⟨(lo s).1.a, (lo s).1.b, (lo s).1.c, (lo s).1.p, (hi s).1.a, (hi s).1.b, (hi s).1.c, (hi s).1.p, (lo s).2, (hi s).2, s.2.isNone⟩
theorem pt_val (s : Sp.S) : valS s = (pt s).val := rfl

/-- What a call did that wrote onto a row of the caller's: that row, and what was laid since, alone. -/
def Onto (w w' : World) (v v' : Value) : Prop := w.grownBy w' v.ownBlock ∧ (v'.ownBlock = v.ownBlock ∨ ∀ n, v'.ownBlock = some n → w.heap.size ≤ n)
theorem Onto.below {B : Nat} {w w' : World} {v v' : Value} {l : List Sp.S} (h : Onto w w' v v') (ho : EOwn ES w B v l) (hB : B ≤ w.heap.size) : Below B w w' := (Below.refl B w).grown h.1 hB (fun k e => (ho.low k e).1)
theorem Onto.refl (w : World) (v : Value) : Onto w w v v := ⟨⟨rfl, rfl, rfl, Nat.le_refl _, fun _ _ _ => rfl⟩, .inl rfl⟩

set_option maxHeartbeats 4000000 in
theorem put_raw (B : Nat) (v : Value) (l : List Sp.S) (q r : Pl) (t : Sp.S) (k : Int) (w : World) (ho : EOwn ES w B v l) (hn : l.length ≤ 10000) (hB : B ≤ w.heap.size)
    (h : Hid (∀ W, Below w.heap.size w W → Calls Tryz.prog 34 #[q.val, r.val] W fun e w' => e = .returned (.int .i64 k) ∧ Below W.heap.size W w'))
    (h2 : Hid (k < 0 → ∀ W, Below w.heap.size w W → Calls Tryz.prog 53 #[q.val, r.val] W fun e w' => e = .returned (valS t) ∧ Below W.heap.size W w')) :
    Calls Tryz.prog 24 #[v, q.val, r.val] w fun e w' => ∃ v', e = .returned v' ∧ EOwn ES w' B v' (if k < 0 then l ++ [t] else l) ∧ Onto w w' v v' := by
  have HO := hide ho
  clear ho
  obtain ⟨a, b, c, p, x, e1⟩ := q
  obtain ⟨a', b', c', p', y, e2⟩ := r
  by_cases hk : k < 0
  · rw [if_pos hk]
    have h3 := hide (h2.out hk)
    clear h2
    go_enter Tryz.func24, Tryz.ntmps24
    go_wp2_with fail
    refine (h.out _ ((by repeat (first | with_reducible assumption | with_reducible exact Below.refl _ _ | with_reducible refine Below.setCell ?_ (by first | exact Nat.le_refl _ | (simp; done) | (simp; omega)) _ | with_reducible refine bal ?_ _ | with_reducible refine Below.alloc ?_ (by first | exact Nat.le_refl _ | (simp; done) | (simp; omega)) _ | with_reducible refine Below.drew ?_)))).mono ?_
    rintro e w1 ⟨rfl, b1⟩
    obtain ⟨c1, c2, f1, f2, lt, hW⟩ := keep2 b1
    clear b1 h
    go_wp2_with fail
    refine (h3.out _ hW).mono ?_
    rintro e w2 ⟨rfl, b2⟩
    have hW2 := step hW b2
    rw [valS_is]
    clear c1 c2 f1 f2 lt h3 b2
    go_wp2_with (refine wpList_eapp ES rfl _ _ rfl B _ l (some _) 1 1 [t] rfl rfl ((HO.out.later hW2).later (by repeat (first | with_reducible assumption | with_reducible exact Below.refl _ _ | with_reducible refine Below.setCell ?_ (by first | exact Nat.le_refl _ | (simp; done) | (simp; omega)) _ | with_reducible refine bal ?_ _ | with_reducible refine Below.alloc ?_ (by first | exact Nat.le_refl _ | (simp; done) | (simp; omega)) _ | with_reducible refine Below.drew ?_))) (ERow.new ES w2 t _) (by simp; omega) (by have := hW2.size; simp; omega) ?_; intro v' w3 o3 g3 t3)
    go_ret
    have hW3 : Below w.heap.size w (w2.alloc (.cells #[.int .i64 (lo t).1.a, .int .i64 (lo t).1.b, .int .i64 (lo t).1.c, .string (lo t).1.p, .int .i64 (hi t).1.a, .int .i64 (hi t).1.b, .int .i64 (hi t).1.c, .string (hi t).1.p, .bool (lo t).2, .bool (hi t).2, .bool t.2.isNone] 44)) := (by repeat (first | with_reducible assumption | with_reducible exact Below.refl _ _ | with_reducible refine Below.setCell ?_ (by first | exact Nat.le_refl _ | (simp; done) | (simp; omega)) _ | with_reducible refine bal ?_ _ | with_reducible refine Below.alloc ?_ (by first | exact Nat.le_refl _ | (simp; done) | (simp; omega)) _ | with_reducible refine Below.drew ?_))
    refine ⟨v', rfl, o3, grownBy_trans (grownBy_below _ hW3) g3 (.inl rfl), t3.imp id fun e n hn => ?_⟩
    rw [e] at hn
    have := hW3.size
    have := Option.some.inj hn
    omega
  · rw [if_neg hk]
    clear h2
    go_enter Tryz.func24, Tryz.ntmps24
    go_wp2_with fail
    refine (h.out _ ((by repeat (first | with_reducible assumption | with_reducible exact Below.refl _ _ | with_reducible refine Below.setCell ?_ (by first | exact Nat.le_refl _ | (simp; done) | (simp; omega)) _ | with_reducible refine bal ?_ _ | with_reducible refine Below.alloc ?_ (by first | exact Nat.le_refl _ | (simp; done) | (simp; omega)) _ | with_reducible refine Below.drew ?_)))).mono ?_
    rintro e w1 ⟨rfl, b1⟩
    obtain ⟨c1, c2, f1, f2, lt, hW⟩ := keep2 b1
    clear b1 h
    go_wp2_with fail
    go_ret
    exact ⟨v, rfl, HO.out.later hW, grownBy_below _ hW, .inl rfl⟩
theorem put_any (B : Nat) (v : Value) (l : List Sp.S) (c d : Sp.C) (hc : Sp.okC c) (hd : Sp.okC d) (w : World) (ho : EOwn ES w B v l) (hn : l.length ≤ 10000) (hB : B ≤ w.heap.size) (he : Env w) :
    Calls Tryz.prog 24 #[v, valC c, valC d] w fun e w' => ∃ v', e = .returned v' ∧ EOwn ES w' B v' (l ++ Sp.only Sp.cmpC c d) ∧ Onto w w' v v' := by
  have h := put_raw B v l (pl c) (pl d) (c, d) (Sp.cmpC c d) w ho hn hB (fun W hW => by rw [← pl_val, ← pl_val]; exact ccmp_any c d hc hd W (he.later hW))
    (fun hk W _ => by
      rw [← pl_val, ← pl_val]
      refine between_any c d ?_ W
      cases c with
      | none => exact absurd (Sp.le_end d) (by have := Sp.ord_cut.anti d none; omega)
      | some p => exact ⟨p, rfl⟩)
  have e : l ++ Sp.only Sp.cmpC c d = if Sp.cmpC c d < 0 then l ++ [(c, d)] else l := by
    unfold Sp.only
    split
    · rfl
    · exact List.append_nil l
  rw [e, pl_val, pl_val]
  exact h

set_option maxHeartbeats 1000000 in
theorem only_any (c d : Sp.C) (hc : Sp.okC c) (hd : Sp.okC d) (w : World) (he : Env w) :
    Calls Tryz.prog 102 #[valC c, valC d] w fun e w' => ∃ v', e = .returned v' ∧ EOwn ES w' w.heap.size v' (Sp.only Sp.cmpC c d) ∧ Below w.heap.size w w' := by
  have CP : Hid (∀ W, Below w.heap.size w W → Calls Tryz.prog 24 #[.slice none 0 0, (pl c).val, (pl d).val] W fun e w' => ∃ v', e = .returned v' ∧ EOwn ES w' w.heap.size v' (Sp.only Sp.cmpC c d) ∧ Onto W w' (.slice none 0 0) v') := fun W hW => by
    have := put_any w.heap.size (.slice none 0 0) [] c d hc hd W (EOwn.nil W _) (by simp) hW.size (he.later hW)
    rw [List.nil_append, pl_val, pl_val] at this
    exact this
  rw [pl_val, pl_val]
  clear hc hd he
  generalize pl c = q at *
  generalize pl d = r at *
  obtain ⟨a, b, c, p, x, e1⟩ := q
  obtain ⟨a', b', c', p', y, e2⟩ := r
  go_enter Tryz.func102, Tryz.ntmps102
  go_wp2_with fail
  refine (CP.out _ ((by repeat (first | with_reducible assumption | with_reducible exact Below.refl _ _ | with_reducible refine Below.setCell ?_ (by first | exact Nat.le_refl _ | (simp; done) | (simp; omega)) _ | with_reducible refine bal ?_ _ | with_reducible refine Below.alloc ?_ (by first | exact Nat.le_refl _ | (simp; done) | (simp; omega)) _ | with_reducible refine Below.drew ?_)))).mono ?_
  rintro e w1 ⟨v', rfl, o1, t1⟩
  clear CP
  have hB : Below w.heap.size w w1 := Below.trans ((by repeat (first | with_reducible assumption | with_reducible exact Below.refl _ _ | with_reducible refine Below.setCell ?_ (by first | exact Nat.le_refl _ | (simp; done) | (simp; omega)) _ | with_reducible refine bal ?_ _ | with_reducible refine Below.alloc ?_ (by first | exact Nat.le_refl _ | (simp; done) | (simp; omega)) _ | with_reducible refine Below.drew ?_))) ((Onto.below t1 (EOwn.nil _ _) (Nat.le_refl _)).mono (by simp; omega))
  clear t1
  go_wp2_with fail
  go_ret
  exact ⟨v', rfl, o1, hB⟩
end Go.Proofs.YthihnpjbdjmbhaaGreatDoor

namespace Go.Proofs.YthihnpjbdjmbhaaGreatDoor
set_option linter.unusedSimpArgs false
set_option linter.unusedVariables false
open Go.RowKit Go.Vr Go.Sort Go.Tx Go.Lib
attribute [local go_sem] setCellDrewN allocDrewN

theorem grownBy_setCell (w : World) (N o : Nat) (v : Value) : w.grownBy (w.setCell ⟨N, o, none⟩ v) (some N) :=
  ⟨rfl, rfl, rfl, by simp [World.setCell], fun k hk hne => Below.heap_setCell _ _ _ _ (fun e => hne (by rw [e]))⟩
theorem Box.set {w : World} {N : Nat} {vs : Array Value} (h : Box w N vs) (o : Nat) (v : Value) (ho : o < vs.size) : Box (w.setCell ⟨N, o, none⟩ v) N (vs.setIfInBounds o v) := by
  refine ⟨by simp [World.setCell]; exact h.lt, fun i => ?_, fun i => by rw [World.frozen?_setCell]; exact h.f i⟩
  by_cases e : i = o
  · subst e
    rw [World.cell?_setCell_same' _ _ _ (by rw [h.c, Array.getElem?_eq_getElem ho]; rfl)]
    rw [Array.getElem?_setIfInBounds]
    simp [ho]
  · have hne : (⟨N, o, none⟩ : Addr) ≠ ⟨N, i, none⟩ := by intro k; injection k with _ k; exact e k.symm
    rw [World.cell?_setCell_other (h := hne), h.c, Array.getElem?_setIfInBounds]
    rw [if_neg (fun k => e k.symm)]
theorem Box.kept {w w' : World} {N : Nat} {vs : Array Value} {r : Option Nat} (h : Box w N vs) (hg : w.grownBy w' r) (hne : r ≠ some N) : Box w' N vs := by
  have hb := hg.block N h.lt (fun e => hne e.symm)
  exact ⟨Nat.lt_of_lt_of_le h.lt hg.size, fun i => by rw [World.cell?_of_block (a := ⟨N, i, none⟩) hb]; exact h.c i, fun i => by rw [World.frozen?_of_block (a := ⟨N, i, none⟩) hb]; exact h.f i⟩
theorem Box.set6 {w : World} {N : Nat} {y0 y1 y2 y3 y4 y5 : Value} (h : Box w N #[y0, y1, y2, y3, y4, y5]) (x0 x1 x2 x3 x4 x5 : Value) :
    Box ((((((w.setCell ⟨N, 0, none⟩ x0).setCell ⟨N, 1, none⟩ x1).setCell ⟨N, 2, none⟩ x2).setCell ⟨N, 3, none⟩ x3).setCell ⟨N, 4, none⟩ x4).setCell ⟨N, 5, none⟩ x5) N #[x0, x1, x2, x3, x4, x5] ∧
    w.grownBy ((((((w.setCell ⟨N, 0, none⟩ x0).setCell ⟨N, 1, none⟩ x1).setCell ⟨N, 2, none⟩ x2).setCell ⟨N, 3, none⟩ x3).setCell ⟨N, 4, none⟩ x4).setCell ⟨N, 5, none⟩ x5) (some N) := by
  refine ⟨?_, ?_⟩
  · exact (((((h.set 0 x0 (by simp)).set 1 x1 (by simp)).set 2 x2 (by simp)).set 3 x3 (by simp)).set 4 x4 (by simp)).set 5 x5 (by simp)
  · exact grownBy_trans (grownBy_trans (grownBy_trans (grownBy_trans (grownBy_trans (grownBy_setCell _ _ _ _) (grownBy_setCell _ _ _ _) (.inl rfl)) (grownBy_setCell _ _ _ _) (.inl rfl)) (grownBy_setCell _ _ _ _) (.inl rfl)) (grownBy_setCell _ _ _ _) (.inl rfl)) (grownBy_setCell _ _ _ _) (.inl rfl)
/-- A place's cells. -/
abbrev Pl.cells (q : Pl) : Array Value := #[.int .i64 q.a, .int .i64 q.b, .int .i64 q.c, .string q.p, .bool q.x, .bool q.e]
theorem below_grown {B : Nat} {a w w' : World} {r : Option Nat} (h : Below B a w) (hg : w.grownBy w' r) (hB : B ≤ w.heap.size) (hr : ∀ k, r = some k → B ≤ k) : Below B a w' := h.grown hg hB hr

abbrev Pt.cells (q : Pt) : Array Value := #[.int .i64 q.a, .int .i64 q.b, .int .i64 q.c, .string q.p, .int .i64 q.a', .int .i64 q.b', .int .i64 q.c', .string q.p', .bool q.x, .bool q.y, .bool q.z]
/-- An element's cells, for a walk. -/
theorem ES_at {w : World} {b off len : Nat} {l : List Sp.S} (h : ERow ES w (some ⟨b, off, none⟩) len l) (j : Nat) (s : Sp.S) (hj : l[j]? = some s) :
    w.cell? ⟨b, off + j * 11, none⟩ = some (.int .i64 (pt s).a) ∧ w.cell? ⟨b, off + j * 11 + 1, none⟩ = some (.int .i64 (pt s).b) ∧ w.cell? ⟨b, off + j * 11 + 2, none⟩ = some (.int .i64 (pt s).c) ∧ w.cell? ⟨b, off + j * 11 + 3, none⟩ = some (.string (pt s).p) ∧ w.cell? ⟨b, off + j * 11 + 4, none⟩ = some (.int .i64 (pt s).a') ∧ w.cell? ⟨b, off + j * 11 + 5, none⟩ = some (.int .i64 (pt s).b') ∧ w.cell? ⟨b, off + j * 11 + 6, none⟩ = some (.int .i64 (pt s).c') ∧ w.cell? ⟨b, off + j * 11 + 7, none⟩ = some (.string (pt s).p') ∧ w.cell? ⟨b, off + j * 11 + 8, none⟩ = some (.bool (pt s).x) ∧ w.cell? ⟨b, off + j * 11 + 9, none⟩ = some (.bool (pt s).y) ∧ w.cell? ⟨b, off + j * 11 + 10, none⟩ = some (.bool (pt s).z) :=
  ⟨h.at_ j s hj 0 _ rfl, h.at_ j s hj 1 _ rfl, h.at_ j s hj 2 _ rfl, h.at_ j s hj 3 _ rfl, h.at_ j s hj 4 _ rfl, h.at_ j s hj 5 _ rfl, h.at_ j s hj 6 _ rfl, h.at_ j s hj 7 _ rfl, h.at_ j s hj 8 _ rfl, h.at_ j s hj 9 _ rfl, h.at_ j s hj 10 _ rfl⟩

set_option maxHeartbeats 8000000 in
theorem not_any (a : Option Addr) (n cap : Nat) (l : List Sp.S) (w : World) (hr : ERow ES w a n l) (hn : n ≤ 9000) (ho : Sp.okL l) (he : Env w) :
    Calls Tryz.prog 11 #[.slice a n cap] w fun e w' => ∃ v', e = .returned v' ∧ EOwn ES w' w.heap.size v' (Sp.notL l) ∧ Below w.heap.size w w' := by
  have HR := hide hr
  have HO := hide ho
  have HE := hide he
  clear hr ho he
  have CS : Hid (∀ W, Calls Tryz.prog 23 #[] W fun e w' => e = .returned (cutv 0 0 0 ⟨#[48]⟩ false false) ∧ Below W.heap.size W w') := fun W => start_raw W
  go_enter Tryz.func11, Tryz.ntmps11
  go_wp2_with fail
  refine (CS.out _).mono ?_
  rintro e w1 ⟨rfl, b1⟩
  have hW : Below w.heap.size w w1 := Below.trans ((by repeat (first | with_reducible assumption | with_reducible exact Below.refl _ _ | with_reducible refine Below.setCell ?_ (by first | exact Nat.le_refl _ | (simp; done) | (simp; omega)) _ | with_reducible refine bal ?_ _ | with_reducible refine Below.alloc ?_ (by first | exact Nat.le_refl _ | (simp; done) | (simp; omega)) _ | with_reducible refine Below.drew ?_))) (b1.mono (by simp))
  clear b1 CS
  go_wp2_with fail
  have B0 : Box (w1.alloc (.cells #[.int .i64 0, .int .i64 0, .int .i64 0, .string ⟨#[48]⟩, .bool false, .bool false] 63)) w1.heap.size (pl Sp.start).cells := Box.new w1 _ _
  have hW0 : Below w.heap.size w (w1.alloc (.cells #[.int .i64 0, .int .i64 0, .int .i64 0, .string ⟨#[48]⟩, .bool false, .bool false] 63)) := bal hW _
  generalize w1.alloc (.cells #[.int .i64 0, .int .i64 0, .int .i64 0, .string ⟨#[48]⟩, .bool false, .bool false] 63) = w2 at *
  have hN : Hid (w.heap.size ≤ w1.heap.size) := hW.size
  generalize w1.heap.size = N at *
  clear hW w1
  go_loopw [3, 10] (fun o i wr => ∃ (k : Nat) (out : List Sp.S) (c : Sp.C), k ≤ n ∧ i = .int .i64 k ∧ out.length ≤ k ∧ EOwn ES wr (N + 1) o out ∧ Box wr N (pl c).cells ∧ Below w.heap.size w wr ∧ Sp.okC c ∧ Hid (Sp.notL l = out ++ Sp.gaps Sp.cmpC none c (l.drop k))) (fun _ i _ => n - (RowKit.intOf i).toNat)
  case atStart => exact ⟨0, [], Sp.start, by omega, rfl, by simp, EOwn.nil _ _, B0, hW0, Sp.ok_start, by show _ = _; simp; rfl⟩
  case round =>
    obtain ⟨k, out, c, hk, rfl, hol, o1, X, hB, oc, HG⟩ := hrel
    by_cases hlt : k < n
    · obtain ⟨b, off, rfl⟩ := HR.out.spot (by omega)
      have hlk : k < l.length := by rw [HR.out.n]; exact hlt
      have hj : l[k]? = some l[k] := List.getElem?_eq_getElem hlk
      have hs := HO.out l[k] (List.getElem_mem hlk)
      have HG2 : Hid (Sp.notL l = (out ++ Sp.only Sp.cmpC c l[k].1) ++ Sp.gaps Sp.cmpC none l[k].2 (l.drop (k + 1))) := by
        show _ = _
        rw [HG.out, List.drop_eq_getElem_cons hlk, List.append_assoc]; rfl
      have HR' := HR.out.later hB
      obtain ⟨d0, d1, d2, d3, d4, d5, d6, d7, d8, d9, d10⟩ := ES_at HR' k l[k] hj
      have CL : Hid (∀ W, Calls Tryz.prog 25 #[(pt l[k]).val] W fun e w' => e = .returned (pl l[k].1).val ∧ Below W.heap.size W w') := fun W => by rw [← pl_val, ← pt_val]; exact low_any _ hs W
      have CH : Hid (∀ W, Calls Tryz.prog 26 #[(pt l[k]).val] W fun e w' => e = .returned (pl l[k].2).val ∧ Below W.heap.size W w') := fun W => by rw [← pl_val, ← pt_val]; exact high_any _ W
      have CP : Hid (∀ (W : World) (v : Value), EOwn ES W (N + 1) v out → N + 1 ≤ W.heap.size → Below w.heap.size w W → Calls Tryz.prog 24 #[v, (pl c).val, (pl l[k].1).val] W fun e w' => ∃ v', e = .returned v' ∧ EOwn ES w' (N + 1) v' (out ++ Sp.only Sp.cmpC c l[k].1) ∧ Onto W w' v v') := fun W v h1 h2 h3 => by
        rw [← pl_val, ← pl_val]; exact put_any (N + 1) v out c l[k].1 oc hs.2.1 W h1 (by omega) h2 (HE.out.later h3)
      have oc2 := hs.2.2
      have hol2 : (out ++ Sp.only Sp.cmpC c l[k].1).length ≤ k + 1 := by
        rw [List.length_append]; unfold Sp.only; split <;> simp <;> omega
      generalize l[k].2 = c2 at *
      generalize l[k].1 = c1 at *
      generalize out ++ Sp.only Sp.cmpC c c1 = out2 at *
      generalize pt l[k] = q at *
      generalize pl c1 = u1 at *
      have i1 : (0 : Int) ≤ (k : Int) := by omega
      have i2 : (k : Int) < (n : Int) := by omega
      clear hj hs HG HR'
      go_wp2_with fail
      have hne : u3.ownBlock ≠ some N := fun e => by have := (o1.low N e).1; omega
      have hne2 : u3.ownBlock ≠ some wr.heap.size := fun e => by have := (o1.low _ e).2; omega
      have XW := X.alloc (.cells #[.int .i64 q.a, .int .i64 q.b, .int .i64 q.c, .string q.p, .int .i64 q.a', .int .i64 q.b', .int .i64 q.c', .string q.p', .bool q.x, .bool q.y, .bool q.z] 44)
      have SW := Box.new wr #[.int .i64 q.a, .int .i64 q.b, .int .i64 q.c, .string q.p, .int .i64 q.a', .int .i64 q.b', .int .i64 q.c', .string q.p', .bool q.x, .bool q.y, .bool q.z] 44
      have hBW := bal hB (.cells #[.int .i64 q.a, .int .i64 q.b, .int .i64 q.c, .string q.p, .int .i64 q.a', .int .i64 q.b', .int .i64 q.c', .string q.p', .bool q.x, .bool q.y, .bool q.z] 44)
      have oW := o1.later (show Below wr.heap.size wr (wr.alloc (.cells #[.int .i64 q.a, .int .i64 q.b, .int .i64 q.c, .string q.p, .int .i64 q.a', .int .i64 q.b', .int .i64 q.c', .string q.p', .bool q.x, .bool q.y, .bool q.z] 44)) from (by repeat (first | with_reducible assumption | with_reducible exact Below.refl _ _ | with_reducible refine Below.setCell ?_ (by first | exact Nat.le_refl _ | (simp; done) | (simp; omega)) _ | with_reducible refine bal ?_ _ | with_reducible refine Below.alloc ?_ (by first | exact Nat.le_refl _ | (simp; done) | (simp; omega)) _ | with_reducible refine Below.drew ?_)))
      clear d0 d1 d2 d3 d4 d5 d6 d7 d8 d9 d10
      generalize wr.alloc (.cells #[.int .i64 q.a, .int .i64 q.b, .int .i64 q.c, .string q.p, .int .i64 q.a', .int .i64 q.b', .int .i64 q.c', .string q.p', .bool q.x, .bool q.y, .bool q.z] 44) = W at *
      clear hB X o1
      generalize wr.heap.size = M at *
      have KX : ∀ w', W.grownBy w' u3.ownBlock → ∀ i, w'.cell? ⟨N, i, none⟩ = ((pl c).cells)[i]? := fun w' h => (XW.kept h hne).c
      have KS : ∀ w', W.grownBy w' u3.ownBlock → ∀ i, w'.cell? ⟨M, i, none⟩ = (#[.int .i64 q.a, .int .i64 q.b, .int .i64 q.c, .string q.p, .int .i64 q.a', .int .i64 q.b', .int .i64 q.c', .string q.p', .bool q.x, .bool q.y, .bool q.z] : Array Value)[i]? := fun w' h => (SW.kept h hne2).c
      have HX := hide XW
      have HS := hide SW
      have lN := XW.lt
      have HN2 := hide hne2
      clear XW SW hne2
      generalize pl c = u at *
      go_region_held3 (fun w' => W.grownBy w' u3.ownBlock) (first | assumption | exact grownBy_below _ (by repeat (first | with_reducible assumption | with_reducible exact Below.refl _ _ | with_reducible refine Below.setCell ?_ (by first | exact Nat.le_refl _ | (simp; done) | (simp; omega)) _ | with_reducible refine bal ?_ _ | with_reducible refine Below.alloc ?_ (by first | exact Nat.le_refl _ | (simp; done) | (simp; omega)) _ | with_reducible refine Below.drew ?_))) (first
        | (go_at_call 25; refine (CL.out _).mono ?_; rintro e w2 ⟨rfl, b2⟩; have b2 : Below W.heap.size W w2 := (show Below W.heap.size W W.drew from (by repeat (first | with_reducible assumption | with_reducible exact Below.refl _ _ | with_reducible refine Below.setCell ?_ (by first | exact Nat.le_refl _ | (simp; done) | (simp; omega)) _ | with_reducible refine bal ?_ _ | with_reducible refine Below.alloc ?_ (by first | exact Nat.le_refl _ | (simp; done) | (simp; omega)) _ | with_reducible refine Below.drew ?_))).trans b2; have g2 := grownBy_below u3.ownBlock b2)
        | (go_at_call 24; refine (CP.out _ _ (oW.later b2) (by have := b2.size; omega) (hBW.trans (b2.mono hBW.size))).mono ?_; rintro e w3 ⟨v3, rfl, o3, t3⟩; have g3 := grownBy_trans g2 t3.1 (.inl rfl)))
      clear KX KS CL CP
      obtain ⟨_, s3, _⟩ := HS.out.kept g3 HN2.out
      go_wp2_with fail
      refine (CH.out _).mono ?_
      rintro e w4 ⟨rfl, b4⟩
      have g4 := grownBy_trans g3 (grownBy_below u3.ownBlock b4) (.inl rfl)
      have X4 := HX.out.kept g4 hne
      have HX4 := hide X4
      obtain ⟨l4, c4, f4⟩ := X4
      have o4 := o3.later b4
      have hB4 : Below w.heap.size w w4 := hBW.grown g4 hBW.size (fun j e => by have := hN.out; have := (oW.low j e).1; omega)
      clear s3 CH b4
      generalize hu2 : pl c2 = u2 at *
      go_wp2_with fail
      go_round
      case rel =>
        obtain ⟨X5, g5⟩ := HX4.out.set6 (.int .i64 u2.a) (.int .i64 u2.b) (.int .i64 u2.c) (.string u2.p) (.bool u2.x) (.bool u2.e)
        exact ⟨k + 1, out2, c2, by omega, by go_num, hol2, o4.kept g5 (.inr (fun e => by have := (o4.low N e).1; omega)), by rw [hu2]; exact X5, hB4.grown g5 hB4.size (fun j e => by have := hN.out; have := Option.some.inj e; omega), oc2, HG2⟩
      case measure => simp [RowKit.intOf]; omega
    · have hd : decide ((k : Int) < (n : Int)) = false := by simp; omega
      have hkn : l.length ≤ k := by rw [HR.out.n]; omega
      have HG2 : Hid (Sp.notL l = out ++ Sp.only Sp.cmpC c none) := by
        show _ = _
        rw [HG.out, List.drop_of_length_le hkn]; rfl
      have CE : Hid (∀ W, Calls Tryz.prog 27 #[] W fun e w' => e = .returned (pl none).val ∧ Below W.heap.size W w') := fun W => end_raw W
      have CP : Hid (∀ (W : World) (v : Value), EOwn ES W (N + 1) v out → N + 1 ≤ W.heap.size → Below w.heap.size w W → Calls Tryz.prog 24 #[v, (pl c).val, (pl none).val] W fun e w' => ∃ v', e = .returned v' ∧ EOwn ES w' (N + 1) v' (out ++ Sp.only Sp.cmpC c none) ∧ Onto W w' v v') := fun W v h1 h2 h3 => by
        rw [← pl_val, ← pl_val]; exact put_any (N + 1) v out c none oc Sp.ok_end W h1 (by omega) h2 (HE.out.later h3)
      have hne : u3.ownBlock ≠ some N := fun e => by have := (o1.low N e).1; omega
      have KX : ∀ w', wr.grownBy w' u3.ownBlock → ∀ i, w'.cell? ⟨N, i, none⟩ = ((pl c).cells)[i]? := fun w' h => (X.kept h hne).c
      have lN := X.lt
      have HBr := hide hB
      clear X hB HG HR
      generalize hpn : pl none = un at *
      generalize pl c = u at *
      go_wp2_with fail
      go_region_held3 (fun w' => wr.grownBy w' u3.ownBlock) (first | assumption | exact grownBy_below _ (by repeat (first | with_reducible assumption | with_reducible exact Below.refl _ _ | with_reducible refine Below.setCell ?_ (by first | exact Nat.le_refl _ | (simp; done) | (simp; omega)) _ | with_reducible refine bal ?_ _ | with_reducible refine Below.alloc ?_ (by first | exact Nat.le_refl _ | (simp; done) | (simp; omega)) _ | with_reducible refine Below.drew ?_))) (first
        | (go_at_call 27; refine (CE.out _).mono ?_; rintro e w2 ⟨rfl, b2⟩; have b2 : Below wr.heap.size wr w2 := (show Below wr.heap.size wr wr.drew from (by repeat (first | with_reducible assumption | with_reducible exact Below.refl _ _ | with_reducible refine Below.setCell ?_ (by first | exact Nat.le_refl _ | (simp; done) | (simp; omega)) _ | with_reducible refine bal ?_ _ | with_reducible refine Below.alloc ?_ (by first | exact Nat.le_refl _ | (simp; done) | (simp; omega)) _ | with_reducible refine Below.drew ?_))).trans b2; have g2 := grownBy_below u3.ownBlock b2)
        | (go_at_call 24; refine (CP.out _ _ (o1.later b2) (by have := b2.size; omega) (HBr.out.trans (b2.mono HBr.out.size))).mono ?_; rintro e w3 ⟨v3, rfl, o3, t3⟩; have g3 := grownBy_trans g2 t3.1 (.inl rfl)))
      go_wp2_with fail
      go_ret
      exact ⟨v3, rfl, by rw [HG2.out]; exact o3.base (by have := hN.out; omega), HBr.out.grown g3 HBr.out.size (fun j e => by have := hN.out; have := (o1.low j e).1; omega)⟩
end Go.Proofs.YthihnpjbdjmbhaaGreatDoor
