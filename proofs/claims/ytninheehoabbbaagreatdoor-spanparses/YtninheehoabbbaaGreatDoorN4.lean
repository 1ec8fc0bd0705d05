/-
  Contracts of a place's cmp at every place, of later, between, low, high, put, only.
-/
import Derived.Test.YtninheehoabbbaaGreatDoorN3
namespace Go.Proofs.YtninheehoabbbaaGreatDoor
set_option linter.unusedSimpArgs false
set_option linter.unusedVariables false
open Go.RowKit Go.Vr Go.Sort Go.Tx Go.Lib
attribute [local go_sem] setCellDrewN allocDrewN

set_option maxHeartbeats 1000000 in
theorem ccmp_end (a b c : Int) (p : ByteArray) (x e1 : Bool) (a' b' c' : Int) (p' : ByteArray) (y e2 : Bool) (w : World) (h : (e1 || e2) = true) :
    Calls Tryz.prog 34 #[cutv a b c p x e1, cutv a' b' c' p' y e2] w fun e w' => e = .returned (.int .i64 (Sp.cmpB e1 e2)) ∧ Below w.heap.size w w' := by
  cases e1 <;> cases e2
  · exact absurd h (by decide)
  all_goals
    clear h
    go_enter Tryz.func34, Tryz.ntmps34
    go_wp2_with fail
    refine (cmpBool_raw _ _ _).mono ?_
    rintro e w1 ⟨rfl, rfl⟩
    go_wp2_with fail
    go_ret
    exact ⟨rfl, (by repeat (first | with_reducible assumption | with_reducible exact Below.refl _ _ | with_reducible refine Below.setCell ?_ (by first | exact Nat.le_refl _ | (simp; done) | (simp; omega)) _ | with_reducible refine bal ?_ _ | with_reducible refine Below.alloc ?_ (by first | exact Nat.le_refl _ | (simp; done) | (simp; omega)) _ | with_reducible refine Below.drew ?_))⟩
theorem ccmp_any (c d : Sp.C) (hc : Sp.okC c) (hd : Sp.okC d) (w : World) (he : Env w) :
    Calls Tryz.prog 34 #[valC c, valC d] w fun e w' => e = .returned (.int .i64 (Sp.cmpC c d)) ∧ Below w.heap.size w w' := by
  cases c with
  | none =>
    cases d with
    | none => exact ccmp_end 0 0 0 ⟨#[]⟩ false true 0 0 0 ⟨#[]⟩ false true w rfl
    | some q => exact ccmp_end 0 0 0 ⟨#[]⟩ false true q.1.a q.1.b q.1.c q.1.p q.2 false w rfl
  | some p =>
    cases d with
    | none => exact ccmp_end p.1.a p.1.b p.1.c p.1.p p.2 false 0 0 0 ⟨#[]⟩ false true w rfl
    | some q => exact ccmp_some p.1 q.1 p.2 q.2 (hc p rfl) (hd q rfl) w he

theorem low_any (s : Sp.S) (h : Sp.okS s) (w : World) :
    Calls Tryz.prog 25 #[valS s] w fun e w' => e = .returned (valC s.1) ∧ Below w.heap.size w w' := by
  obtain ⟨⟨p, hp⟩, _⟩ := h
  have e : valC s.1 = cutv (lo s).1.a (lo s).1.b (lo s).1.c (lo s).1.p (lo s).2 false := by unfold lo; rw [hp]; rfl
  rw [e, valS_is]
  exact low_raw _ _ _ _ _ _ _ _ _ _ _ w
theorem high_any (s : Sp.S) (w : World) :
    Calls Tryz.prog 26 #[valS s] w fun e w' => e = .returned (valC s.2) ∧ Below w.heap.size w w' := by
  rw [valS_is]
  cases h : s.2 with
  | none => exact high_open _ _ _ _ _ _ _ _ _ _ w
  | some q =>
    have e : hi s = q := by unfold hi; rw [h]; rfl
    rw [e]
    exact high_raw _ _ _ _ _ _ _ _ _ _ w
theorem between_any (c d : Sp.C) (h : ∃ p, c = some p) (w : World) :
    Calls Tryz.prog 53 #[valC c, valC d] w fun e w' => e = .returned (valS (c, d)) ∧ Below w.heap.size w w' := by
  obtain ⟨p, rfl⟩ := h
  cases d with
  | none => exact between_end p.1.a p.1.b p.1.c p.1.p 0 0 0 ⟨#[]⟩ p.2 false false w
  | some q => exact between_raw p.1.a p.1.b p.1.c p.1.p q.1.a q.1.b q.1.c q.1.p p.2 q.2 false w

/-- Its cells. -/
def encC : Sp.C → Array Value
  | none => #[.int .i64 0, .int .i64 0, .int .i64 0, .string ⟨#[]⟩, .bool false, .bool true]
  | some p => #[.int .i64 p.1.a, .int .i64 p.1.b, .int .i64 p.1.c, .string p.1.p, .bool p.2, .bool false]
/-- A place's parts. -/
structure Pl where
  a : Int
  b : Int
  c : Int
  p : ByteArray
  x : Bool
  e : Bool
abbrev Pl.val (q : Pl) : Value := cutv q.a q.b q.c q.p q.x q.e
def pl : Sp.C → Pl
  | none => ⟨0, 0, 0, ⟨#[]⟩, false, true⟩
  | some p => ⟨p.1.a, p.1.b, p.1.c, p.1.p, p.2, false⟩
theorem pl_val (c : Sp.C) : valC c = (pl c).val := by cases c <;> rfl

/-- Two, three variables' blocks behind a call. -/
theorem keep2 {w w1 : World} {x y : Array Value} {Tx Ty : TypeId} (hb : Below ((w.alloc (.cells x Tx)).alloc (.cells y Ty)).heap.size ((w.alloc (.cells x Tx)).alloc (.cells y Ty)) w1) :
    (∀ i, w1.cell? ⟨w.heap.size, i, none⟩ = x[i]?) ∧ (∀ i, w1.cell? ⟨w.heap.size + 1, i, none⟩ = y[i]?) ∧ (∀ i, w1.frozen? ⟨w.heap.size, i, none⟩ = false) ∧ (∀ i, w1.frozen? ⟨w.heap.size + 1, i, none⟩ = false) ∧ w.heap.size + 1 < w1.heap.size ∧ Below w.heap.size w w1 := by
  have X := ((Box.new w x Tx).alloc (.cells y Ty)).later hb
  have Y := (Box.new (w.alloc (.cells x Tx)) y Ty).later hb
  have e : (w.alloc (.cells x Tx)).heap.size = w.heap.size + 1 := by simp
  rw [e] at Y
  exact ⟨X.c, Y.c, X.f, Y.f, Y.lt, Below.trans ((by repeat (first | with_reducible assumption | with_reducible exact Below.refl _ _ | with_reducible refine Below.setCell ?_ (by first | exact Nat.le_refl _ | (simp; done) | (simp; omega)) _ | with_reducible refine bal ?_ _ | with_reducible refine Below.alloc ?_ (by first | exact Nat.le_refl _ | (simp; done) | (simp; omega)) _ | with_reducible refine Below.drew ?_))) (hb.mono (by simp; omega))⟩
theorem keep3 {w w1 : World} {x y z : Array Value} {Tx Ty Tz : TypeId} (hb : Below (((w.alloc (.cells x Tx)).alloc (.cells y Ty)).alloc (.cells z Tz)).heap.size (((w.alloc (.cells x Tx)).alloc (.cells y Ty)).alloc (.cells z Tz)) w1) :
    (∀ i, w1.cell? ⟨w.heap.size, i, none⟩ = x[i]?) ∧ (∀ i, w1.cell? ⟨w.heap.size + 1, i, none⟩ = y[i]?) ∧ (∀ i, w1.cell? ⟨w.heap.size + 1 + 1, i, none⟩ = z[i]?) ∧ (∀ i, w1.frozen? ⟨w.heap.size, i, none⟩ = false) ∧ (∀ i, w1.frozen? ⟨w.heap.size + 1, i, none⟩ = false) ∧ (∀ i, w1.frozen? ⟨w.heap.size + 1 + 1, i, none⟩ = false) ∧ w.heap.size + 1 + 1 < w1.heap.size ∧ Below w.heap.size w w1 := by
  have X := (((Box.new w x Tx).alloc (.cells y Ty)).alloc (.cells z Tz)).later hb
  have Y := ((Box.new (w.alloc (.cells x Tx)) y Ty).alloc (.cells z Tz)).later hb
  have Z := (Box.new ((w.alloc (.cells x Tx)).alloc (.cells y Ty)) z Tz).later hb
  have e : (w.alloc (.cells x Tx)).heap.size = w.heap.size + 1 := by simp
  have e2 : ((w.alloc (.cells x Tx)).alloc (.cells y Ty)).heap.size = w.heap.size + 1 + 1 := by simp
  rw [e] at Y
  rw [e2] at Z
  exact ⟨X.c, Y.c, Z.c, X.f, Y.f, Z.f, Z.lt, Below.trans ((by repeat (first | with_reducible assumption | with_reducible exact Below.refl _ _ | with_reducible refine Below.setCell ?_ (by first | exact Nat.le_refl _ | (simp; done) | (simp; omega)) _ | with_reducible refine bal ?_ _ | with_reducible refine Below.alloc ?_ (by first | exact Nat.le_refl _ | (simp; done) | (simp; omega)) _ | with_reducible refine Below.drew ?_))) (hb.mono (by simp; omega))⟩

set_option maxHeartbeats 4000000 in
theorem later_raw (q r : Pl) (k : Int) (w : World) (h : Hid (∀ W, Below w.heap.size w W → Calls Tryz.prog 34 #[q.val, r.val] W fun e w' => e = .returned (.int .i64 k) ∧ Below W.heap.size W w')) :
    Calls Tryz.prog 39 #[q.val, r.val] w fun e w' => e = .returned (if k < 0 then r.val else q.val) ∧ Below w.heap.size w w' := by
  obtain ⟨a, b, c, p, x, e1⟩ := q
  obtain ⟨a', b', c', p', y, e2⟩ := r
  by_cases hk : k < 0
  · rw [if_pos hk]
    go_enter Tryz.func39, Tryz.ntmps39
    go_wp2_with fail
    refine (h.out _ ((by repeat (first | with_reducible assumption | with_reducible exact Below.refl _ _ | with_reducible refine Below.setCell ?_ (by first | exact Nat.le_refl _ | (simp; done) | (simp; omega)) _ | with_reducible refine bal ?_ _ | with_reducible refine Below.alloc ?_ (by first | exact Nat.le_refl _ | (simp; done) | (simp; omega)) _ | with_reducible refine Below.drew ?_)))).mono ?_
    rintro e w1 ⟨rfl, b1⟩
    obtain ⟨c1, c2, c3, f1, f2, f3, lt, hB⟩ := keep3 b1
    clear b1 h
    go_wp2_with fail
    exact bodyPost_ret (by simp [results, Tryz.results39, go_sem, *]) rfl ⟨rfl, (by repeat (first | with_reducible assumption | with_reducible exact Below.refl _ _ | with_reducible refine Below.setCell ?_ (by first | exact Nat.le_refl _ | (simp; done) | (simp; omega)) _ | with_reducible refine bal ?_ _ | with_reducible refine Below.alloc ?_ (by first | exact Nat.le_refl _ | (simp; done) | (simp; omega)) _ | with_reducible refine Below.drew ?_))⟩
  · rw [if_neg hk]
    go_enter Tryz.func39, Tryz.ntmps39
    go_wp2_with fail
    refine (h.out _ ((by repeat (first | with_reducible assumption | with_reducible exact Below.refl _ _ | with_reducible refine Below.setCell ?_ (by first | exact Nat.le_refl _ | (simp; done) | (simp; omega)) _ | with_reducible refine bal ?_ _ | with_reducible refine Below.alloc ?_ (by first | exact Nat.le_refl _ | (simp; done) | (simp; omega)) _ | with_reducible refine Below.drew ?_)))).mono ?_
    rintro e w1 ⟨rfl, b1⟩
    obtain ⟨c1, c2, c3, f1, f2, f3, lt, hB⟩ := keep3 b1
    clear b1 h
    go_wp2_with fail
    exact bodyPost_ret (by simp [results, Tryz.results39, go_sem, *]) rfl ⟨rfl, (by repeat (first | with_reducible assumption | with_reducible exact Below.refl _ _ | with_reducible refine Below.setCell ?_ (by first | exact Nat.le_refl _ | (simp; done) | (simp; omega)) _ | with_reducible refine bal ?_ _ | with_reducible refine Below.alloc ?_ (by first | exact Nat.le_refl _ | (simp; done) | (simp; omega)) _ | with_reducible refine Below.drew ?_))⟩
theorem later_any (c d : Sp.C) (hc : Sp.okC c) (hd : Sp.okC d) (w : World) (he : Env w) :
    Calls Tryz.prog 39 #[valC c, valC d] w fun e w' => e = .returned (valC (Sp.later Sp.cmpC c d)) ∧ Below w.heap.size w w' := by
  have h := later_raw (pl c) (pl d) (Sp.cmpC c d) w (fun W hW => by rw [← pl_val, ← pl_val]; exact ccmp_any c d hc hd W (he.later hW))
  have e : valC (Sp.later Sp.cmpC c d) = if Sp.cmpC c d < 0 then valC d else valC c := by unfold Sp.later; split <;> rfl
  rw [e, pl_val, pl_val]
  exact h

/-- A span's parts. -/
structure Pt where
  a : Int
  b : Int
  c : Int
  p : ByteArray
  a' : Int
  b' : Int
  c' : Int
  p' : ByteArray
  x : Bool
  y : Bool
  z : Bool
abbrev Pt.val (q : Pt) : Value := spv q.a q.b q.c q.p q.a' q.b' q.c' q.p' q.x q.y q.z
def pt (s : Sp.S) : Pt := ⟨(lo s).1.a, (lo s).1.b, (lo s).1.c, (lo s).1.p, (hi s).1.a, (hi s).1.b, (hi s).1.c, (hi s).1.p, (lo s).2, (hi s).2, s.2.isNone⟩
theorem pt_val (s : Sp.S) : valS s = (pt s).val := rfl

/-- What a call did that wrote onto a row of the caller's: that row, and what was laid since, alone. -/
def Onto (w w' : World) (v v' : Value) : Prop := w.grownBy w' v.ownBlock ∧ (v'.ownBlock = v.ownBlock ∨ ∀ n, v'.ownBlock = some n → w.heap.size ≤ n)
theorem Onto.below {B : Nat} {w w' : World} {v v' : Value} {l : List Sp.S} (h : Onto w w' v v') (ho : EOwn ES w B v l) (hB : B ≤ w.heap.size) : Below B w w' := (Below.refl B w).grown h.1 hB (fun k e => (ho.low k e).1)
theorem Onto.refl (w : World) (v : Value) : Onto w w v v := ⟨⟨rfl, rfl, rfl, Nat.le_refl _, fun _ _ _ => rfl⟩, .inl rfl⟩

set_option maxHeartbeats 4000000 in
theorem put_raw (B : Nat) (v : Value) (l : List Sp.S) (q r : Pl) (t : Sp.S) (k : Int) (w : World) (ho : EOwn ES w B v l) (hn : l.length ≤ 10000) (hB : B ≤ w.heap.size)
    (h : Hid (∀ W, Below w.heap.size w W → Calls Tryz.prog 34 #[q.val, r.val] W fun e w' => e = .returned (.int .i64 k) ∧ Below W.heap.size W w'))
    (h2 : Hid (k < 0 → ∀ W, Below w.heap.size w W → Calls Tryz.prog 53 #[q.val, r.val] W fun e w' => e = .returned (valS t) ∧ Below W.heap.size W w')) :
    Calls Tryz.prog 24 #[v, q.val, r.val] w fun e w' => ∃ v', e = .returned v' ∧ EOwn ES w' B v' (if k < 0 then l ++ [t] else l) ∧ Onto w w' v v' := by
  have HO := hide ho
  clear ho
  obtain ⟨a, b, c, p, x, e1⟩ := q
  obtain ⟨a', b', c', p', y, e2⟩ := r
  by_cases hk : k < 0
  · rw [if_pos hk]
    have h3 := hide (h2.out hk)
    clear h2
    go_enter Tryz.func24, Tryz.ntmps24
    go_wp2_with fail
    refine (h.out _ ((by repeat (first | with_reducible assumption | with_reducible exact Below.refl _ _ | with_reducible refine Below.setCell ?_ (by first | exact Nat.le_refl _ | (simp; done) | (simp; omega)) _ | with_reducible refine bal ?_ _ | with_reducible refine Below.alloc ?_ (by first | exact Nat.le_refl _ | (simp; done) | (simp; omega)) _ | with_reducible refine Below.drew ?_)))).mono ?_
    rintro e w1 ⟨rfl, b1⟩
    obtain ⟨c1, c2, f1, f2, lt, hW⟩ := keep2 b1
    clear b1 h
    go_wp2_with fail
    refine (h3.out _ hW).mono ?_
    rintro e w2 ⟨rfl, b2⟩
    have hW2 := step hW b2
    rw [valS_is]
    clear c1 c2 f1 f2 lt h3 b2
    go_wp2_with (refine wpList_eapp ES rfl _ _ rfl B _ l (some _) 1 1 [t] rfl rfl ((HO.out.later hW2).later (by repeat (first | with_reducible assumption | with_reducible exact Below.refl _ _ | with_reducible refine Below.setCell ?_ (by first | exact Nat.le_refl _ | (simp; done) | (simp; omega)) _ | with_reducible refine bal ?_ _ | with_reducible refine Below.alloc ?_ (by first | exact Nat.le_refl _ | (simp; done) | (simp; omega)) _ | with_reducible refine Below.drew ?_))) (ERow.new ES w2 t _) (by simp; omega) (by have := hW2.size; simp; omega) ?_; intro v' w3 o3 g3 t3)
    go_ret
    have hW3 : Below w.heap.size w (w2.alloc (.cells #[.int .i64 (lo t).1.a, .int .i64 (lo t).1.b, .int .i64 (lo t).1.c, .string (lo t).1.p, .int .i64 (hi t).1.a, .int .i64 (hi t).1.b, .int .i64 (hi t).1.c, .string (hi t).1.p, .bool (lo t).2, .bool (hi t).2, .bool t.2.isNone] 44)) := (by repeat (first | with_reducible assumption | with_reducible exact Below.refl _ _ | with_reducible refine Below.setCell ?_ (by first | exact Nat.le_refl _ | (simp; done) | (simp; omega)) _ | with_reducible refine bal ?_ _ | with_reducible refine Below.alloc ?_ (by first | exact Nat.le_refl _ | (simp; done) | (simp; omega)) _ | with_reducible refine Below.drew ?_))
    refine ⟨v', rfl, o3, grownBy_trans (grownBy_below _ hW3) g3 (.inl rfl), t3.imp id fun e n hn => ?_⟩
    rw [e] at hn
    have := hW3.size
    have := Option.some.inj hn
    omega
  · rw [if_neg hk]
    clear h2
    go_enter Tryz.func24, Tryz.ntmps24
    go_wp2_with fail
    refine (h.out _ ((by repeat (first | with_reducible assumption | with_reducible exact Below.refl _ _ | with_reducible refine Below.setCell ?_ (by first | exact Nat.le_refl _ | (simp; done) | (simp; omega)) _ | with_reducible refine bal ?_ _ | with_reducible refine Below.alloc ?_ (by first | exact Nat.le_refl _ | (simp; done) | (simp; omega)) _ | with_reducible refine Below.drew ?_)))).mono ?_
    rintro e w1 ⟨rfl, b1⟩
    obtain ⟨c1, c2, f1, f2, lt, hW⟩ := keep2 b1
    clear b1 h
    go_wp2_with fail
    go_ret
    exact ⟨v, rfl, HO.out.later hW, grownBy_below _ hW, .inl rfl⟩
theorem put_any (B : Nat) (v : Value) (l : List Sp.S) (c d : Sp.C) (hc : Sp.okC c) (hd : Sp.okC d) (w : World) (ho : EOwn ES w B v l) (hn : l.length ≤ 10000) (hB : B ≤ w.heap.size) (he : Env w) :
    Calls Tryz.prog 24 #[v, valC c, valC d] w fun e w' => ∃ v', e = .returned v' ∧ EOwn ES w' B v' (l ++ Sp.only Sp.cmpC c d) ∧ Onto w w' v v' := by
  have h := put_raw B v l (pl c) (pl d) (c, d) (Sp.cmpC c d) w ho hn hB (fun W hW => by rw [← pl_val, ← pl_val]; exact ccmp_any c d hc hd W (he.later hW))
    (fun hk W _ => by
      rw [← pl_val, ← pl_val]
      refine between_any c d ?_ W
      cases c with
      | none => exact absurd (Sp.le_end d) (by have := Sp.ord_cut.anti d none; omega)
      | some p => exact ⟨p, rfl⟩)
  have e : l ++ Sp.only Sp.cmpC c d = if Sp.cmpC c d < 0 then l ++ [(c, d)] else l := by
    unfold Sp.only
    split
    · rfl
    · exact List.append_nil l
  rw [e, pl_val, pl_val]
  exact h

set_option maxHeartbeats 1000000 in
theorem only_any (c d : Sp.C) (hc : Sp.okC c) (hd : Sp.okC d) (w : World) (he : Env w) :
    Calls Tryz.prog 102 #[valC c, valC d] w fun e w' => ∃ v', e = .returned v' ∧ EOwn ES w' w.heap.size v' (Sp.only Sp.cmpC c d) ∧ Below w.heap.size w w' := by
  have CP : Hid (∀ W, Below w.heap.size w W → Calls Tryz.prog 24 #[.slice none 0 0, (pl c).val, (pl d).val] W fun e w' => ∃ v', e = .returned v' ∧ EOwn ES w' w.heap.size v' (Sp.only Sp.cmpC c d) ∧ Onto W w' (.slice none 0 0) v') := fun W hW => by
    have := put_any w.heap.size (.slice none 0 0) [] c d hc hd W (EOwn.nil W _) (by simp) hW.size (he.later hW)
    rw [List.nil_append, pl_val, pl_val] at this
    exact this
  rw [pl_val, pl_val]
  clear hc hd he
  generalize pl c = q at *
  generalize pl d = r at *
  obtain ⟨a, b, c, p, x, e1⟩ := q
  obtain ⟨a', b', c', p', y, e2⟩ := r
  go_enter Tryz.func102, Tryz.ntmps102
  go_wp2_with fail
  refine (CP.out _ ((by repeat (first | with_reducible assumption | with_reducible exact Below.refl _ _ | with_reducible refine Below.setCell ?_ (by first | exact Nat.le_refl _ | (simp; done) | (simp; omega)) _ | with_reducible refine bal ?_ _ | with_reducible refine Below.alloc ?_ (by first | exact Nat.le_refl _ | (simp; done) | (simp; omega)) _ | with_reducible refine Below.drew ?_)))).mono ?_
  rintro e w1 ⟨v', rfl, o1, t1⟩
  clear CP
  have hB : Below w.heap.size w w1 := Below.trans ((by repeat (first | with_reducible assumption | with_reducible exact Below.refl _ _ | with_reducible refine Below.setCell ?_ (by first | exact Nat.le_refl _ | (simp; done) | (simp; omega)) _ | with_reducible refine bal ?_ _ | with_reducible refine Below.alloc ?_ (by first | exact Nat.le_refl _ | (simp; done) | (simp; omega)) _ | with_reducible refine Below.drew ?_))) ((Onto.below t1 (EOwn.nil _ _) (Nat.le_refl _)).mono (by simp; omega))
  clear t1
  go_wp2_with fail
  go_ret
  exact ⟨v', rfl, o1, hB⟩
end Go.Proofs.YtninheehoabbbaaGreatDoor
