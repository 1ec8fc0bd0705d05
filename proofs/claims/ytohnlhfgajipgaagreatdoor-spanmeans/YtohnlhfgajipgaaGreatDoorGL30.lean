/-
  The walk of SpanMeans.
-/
import Derived.Test.YtohnlhfgajipgaaGreatDoorG33
import Derived.BigQuiet
import Derived.Deep.CutBlock

namespace Go.Proofs.YtohnlhfgajipgaaGreatDoor.spanMeans
set_option linter.unusedSimpArgs false
set_option linter.unusedVariables false
open Go.RowKit Go.Vr Go.Sort Go.Tx Go.Lib
attribute [local go_sem] setCellDrewN allocDrewN

abbrev c1 (v : V) : Array Value := #[.int .i64 v.a, .int .i64 v.b, .int .i64 v.c, .string v.p]
def ops : List ByteArray := [⟨#[]⟩, ⟨#[61]⟩, ⟨#[33, 61]⟩, ⟨#[62]⟩, ⟨#[62, 61]⟩, ⟨#[60]⟩, ⟨#[60, 61]⟩]
abbrev oobj : Obj := .cells #[.string ⟨#[]⟩, .string ⟨#[61]⟩, .string ⟨#[33, 61]⟩, .string ⟨#[62]⟩, .string ⟨#[62, 61]⟩, .string ⟨#[60]⟩, .string ⟨#[60, 61]⟩] 9
theorem ops_is : ∀ k, k < 7 → (ops.getD k ⟨#[]⟩).data.toList = opT.getD k [] ∧ ((ops.getD k ⟨#[]⟩).data.toList.all fun c => decide (c.toNat < 128) && (c != 118) && Sp.isW c) = true ∧ (ops.getD k ⟨#[]⟩).size ≤ 4 := by
  have h : ((List.range 7).all fun k => decide ((ops.getD k ⟨#[]⟩).data.toList = opT.getD k []) && ((ops.getD k ⟨#[]⟩).data.toList.all fun c => decide (c.toNat < 128) && (c != 118) && Sp.isW c) && decide ((ops.getD k ⟨#[]⟩).size ≤ 4)) = true := by decide +kernel
  intro k hk
  have := List.all_eq_true.1 h k (List.mem_range.2 hk)
  rw [Bool.and_eq_true, Bool.and_eq_true, decide_eq_true_eq, decide_eq_true_eq] at this
  exact ⟨this.1.1, this.1.2, this.2⟩
theorem o_cells (w : World) : ∀ j, j < 7 → (w.alloc oobj).cell? ⟨w.heap.size, j, none⟩ = some (.string (ops.getD j ⟨#[]⟩)) := by
  intro j hj
  have e : oobj = .cells (ops.map Value.string).toArray 9 := rfl
  rw [e]
  have hl : j < ops.length := hj
  simp [List.getElem?_eq_getElem hl]
abbrev bobj (c : Int) : Obj := .cells #[.bool (c == 0), .bool (c == 0), .bool (c != 0), .bool (decide (0 < c)), .bool (decide (0 ≤ c)), .bool (decide (c < 0)), .bool (decide (c ≤ 0))] 4
theorem b_cells (w : World) (c : Int) : ∀ j, j < 7 → (w.alloc (bobj c)).cell? ⟨w.heap.size, j, none⟩ = some (.bool ((opW c).getD j false)) := by
  intro j hj
  have e : bobj c = .cells ((opW c).map Value.bool).toArray 4 := rfl
  rw [e]
  have hl : j < (opW c).length := hj
  simp [List.getElem?_eq_getElem hl]
theorem ok_x {v u : V} (hv : v.ok = true) (hu : u.ok = true) : V.ok ⟨v.a, u.b, u.c, u.p⟩ = true := by
  unfold V.ok verOk at *
  simp only [Bool.and_eq_true] at *
  exact ⟨⟨⟨hv.1.1.1, hu.1.1.2⟩, hu.1.2⟩, hu.2⟩
theorem ok_y {v u : V} (hv : v.ok = true) (hu : u.ok = true) : V.ok ⟨v.a, v.b, u.c, u.p⟩ = true := by
  unfold V.ok verOk at *
  simp only [Bool.and_eq_true] at *
  exact ⟨⟨⟨hv.1.1.1, hv.1.1.2⟩, hu.1.2⟩, hu.2⟩

set_option maxHeartbeats 16000000 in
set_option maxRecDepth 100000 in
theorem walk (a0 a1 a2 a3 a4 : Int) (w : World) (he : Env w) (h0 : -9223372036854775808 ≤ a0 ∧ a0 ≤ 9223372036854775807) (h1 : -9223372036854775808 ≤ a1 ∧ a1 ≤ 9223372036854775807) (h2 : -9223372036854775808 ≤ a2 ∧ a2 ≤ 9223372036854775807) (h3 : -9223372036854775808 ≤ a3 ∧ a3 ≤ 9223372036854775807) (h4 : -9223372036854775808 ≤ a4 ∧ a4 ≤ 9223372036854775807) :
    Calls Tryz.prog 6 #[.int .i64 a0, .int .i64 a1, .int .i64 a2, .int .i64 a3, .int .i64 a4] w fun e w' => e = .returned (.bool true) ∧ RowKit.Below w.heap.size w w' := by
  have CM0 : Hid (∀ W, Calls Tryz.prog 32 #[.int .i64 a0, .int .i64 a1] W fun e w' => ∃ v : V, e = .returned (val v) ∧ v.ok = true ∧ RowKit.Below W.heap.size W w') := fun W => make_any a0 a1 W h0 h1
  have CM1 : Hid (∀ W, Calls Tryz.prog 32 #[.int .i64 a2, .int .i64 a3] W fun e w' => ∃ v : V, e = .returned (val v) ∧ v.ok = true ∧ RowKit.Below W.heap.size W w') := fun W => make_any a2 a3 W h2 h3
  have CW : Hid (∀ W, Calls Tryz.prog 29 #[.int .i64 a4, .int .i64 7] W fun e w' => ∃ k : Nat, e = .returned (.int .i64 k) ∧ (k : Int) < 7 ∧ Hid ((k : Int) = a4 % 7) ∧ w' = W) := fun W => within3 a4 7 W (by omega) (by omega) h4.1 h4.2
  have HE := hide he
  clear he h0 h1 h2 h3 h4
  go_enter Tryz.func6, Tryz.ntmps6
  go_wp2_with fail
  refine (known3_any w HE.out).mono ?_
  rintro e W0 ⟨rfl, b⟩
  have B := hide b
  clear b
  go_wp2_with fail
  refine (CM0.out _).mono ?_
  rintro e W1 ⟨v, rfl, okv, b⟩
  replace B := hide (step B.out b)
  clear b
  go_wp2_with fail
  refine (CM1.out _).mono ?_
  rintro e W2 ⟨u, rfl, oku, b⟩
  replace B := hide (step B.out b)
  clear b CM0 CM1
  have OKV := hide okv
  have OKU := hide oku
  have X0 := (Box.new W2 (c1 v) 34).alloc (.cells (c1 u) 34)
  have Y0 := Box.new (W2.alloc (.cells (c1 v) 34)) (c1 u) 34
  have hsz : (W2.alloc (.cells (c1 v) 34)).heap.size = W2.heap.size + 1 := by simp
  rw [hsz] at Y0
  have hba : RowKit.Below W2.heap.size W2 ((W2.alloc (.cells (c1 v) 34)).alloc (.cells (c1 u) 34)) := (by repeat (first | with_reducible assumption | with_reducible exact Below.refl _ _ | with_reducible refine Below.setCell ?_ (by first | exact Nat.le_refl _ | (simp; done) | (simp; omega)) _ | with_reducible refine bal ?_ _ | with_reducible refine Below.alloc ?_ (by first | exact Nat.le_refl _ | (simp; done) | (simp; omega)) _ | with_reducible refine Below.drew ?_))
  replace B := hide (step B.out hba)
  have CC : Hid (∀ W, Calls Tryz.prog 26 #[ver u.a u.b u.c u.p, ver v.a v.b v.c v.p] W fun e w' => e = .returned (.int .i64 (cmpV u v)) ∧ RowKit.Below W.heap.size W w') := fun W => rcmp_any u v W (ok_1000 okv |> fun _ => ok_1000 oku) (ok_1000 okv)
  clear hsz hba okv oku
  go_wp2_with fail
  refine (CC.out _).mono ?_
  rintro e W3 ⟨rfl, b⟩
  replace B := hide (step B.out b)
  have X := hide (X0.later b)
  have Y := hide (Y0.later b)
  generalize hN : W2.heap.size = N at *
  generalize hN1 : N + 1 = N1 at *
  have HN : Hid (¬ N = N1) := fun e => by omega
  clear b CC X0 Y0 hN hN1
  go_wp2_with fail
  refine (CW.out _).mono ?_
  rintro e W4 ⟨k, rfl, hk, -, rfl⟩
  have hk7 : k < 7 := by omega
  obtain ⟨l, hsg, hany⟩ := op_means (u := u) OKV.out OKU.out k hk7
  obtain ⟨q1, q2, q3⟩ := ops_is k hk7
  rw [← q1] at hsg
  have CP : Hid (∀ W, Env W → Calls Tryz.prog 30 #[.string (ops.getD k ⟨#[]⟩ ++ str (txt v))] W fun e w' => ∃ ad n cp, e = .returned (.tuple #[.slice ad n cp, .int .i64 0, .int .i64 0]) ∧ SR w' ad n l 2 ∧ RowKit.Below W.heap.size W w') := fun W hW => sign_sl _ v l W hW OKV.out q2 q3 hsg
  have co := o_cells W4 k hk7
  have hsk := q3
  clear hsg q1 q2 q3 CW
  generalize ops.getD k ⟨#[]⟩ = op at *
  have i1 : (0 : Int) ≤ (k : Int) := by omega
  have i2 : (k : Int) < 7 := by omega
  generalize hc : cmpV u v = c at *
  have HC := hide hc
  have HANY := hide hany
  clear hc hany hk
  go_upto_region 7 with fail
  have hbo : RowKit.Below W4.heap.size W4 (W4.alloc oobj) := (by repeat (first | with_reducible assumption | with_reducible exact Below.refl _ _ | with_reducible refine Below.setCell ?_ (by first | exact Nat.le_refl _ | (simp; done) | (simp; omega)) _ | with_reducible refine bal ?_ _ | with_reducible refine Below.alloc ?_ (by first | exact Nat.le_refl _ | (simp; done) | (simp; omega)) _ | with_reducible refine Below.drew ?_))
  replace B := hide (step B.out hbo)
  replace X := hide (X.out.later hbo)
  replace Y := hide (Y.out.later hbo)
  generalize W4.alloc oobj = W5 at *
  clear hbo co
  have cb := b_cells W5 c k hk7
  generalize hbk : (opW c).getD k false = bk at *
  go_upto_region 8 with fail
  have hbb : RowKit.Below W5.heap.size W5 (W5.alloc (bobj c)) := (by repeat (first | with_reducible assumption | with_reducible exact Below.refl _ _ | with_reducible refine Below.setCell ?_ (by first | exact Nat.le_refl _ | (simp; done) | (simp; omega)) _ | with_reducible refine bal ?_ _ | with_reducible refine Below.alloc ?_ (by first | exact Nat.le_refl _ | (simp; done) | (simp; omega)) _ | with_reducible refine Below.drew ?_))
  replace B := hide (step B.out hbb)
  replace X := hide (X.out.later hbb)
  replace Y := hide (Y.out.later hbb)
  generalize W5.alloc (bobj c) = W6 at *
  clear hbb cb
  have sv := (ok_txt OKV.out).1
  have su := (ok_txt OKU.out).1
  have CTv : Hid (∀ W, Calls Tryz.prog 33 #[ver v.a v.b v.c v.p] W fun e w' => e = .returned (.string (str (txt v))) ∧ RowKit.Below W.heap.size W w') := fun W => rtext_v v W OKV.out
  have CTu : Hid (∀ W, Calls Tryz.prog 33 #[ver u.a u.b u.c u.p] W fun e w' => e = .returned (.string (str (txt u))) ∧ RowKit.Below W.heap.size W w') := fun W => rtext_v u W OKU.out
  have C2 : Hid (∀ W, Env W → Calls Tryz.prog 30 #[.string (str (txt v) ++ ⟨#[32, 45, 32]⟩ ++ str (txt u))] W fun e w' => ∃ ad n cp, e = .returned (.tuple #[.slice ad n cp, .int .i64 0, .int .i64 0]) ∧ SR w' ad n (Sp.only Sp.cmpC (some (v, false)) (some (u, true))) 2 ∧ RowKit.Below W.heap.size W w') := fun W hW => two_sl v u W hW OKV.out OKU.out
  have C3 : Hid (∀ W, Env W → Calls Tryz.prog 30 #[.string (⟨#[94]⟩ ++ str (txt v))] W fun e w' => ∃ ad n cp, e = .returned (.tuple #[.slice ad n cp, .int .i64 0, .int .i64 0]) ∧ SR w' ad n (Sp.only Sp.cmpC (some (v, false)) (Sp.bumpL v)) 2 ∧ RowKit.Below W.heap.size W w') := fun W hW => sign_sl ⟨#[94]⟩ v _ W hW OKV.out (by decide) (by decide) rfl
  have C4 : Hid (∀ W, Env W → Calls Tryz.prog 30 #[.string (⟨#[126]⟩ ++ str (txt v))] W fun e w' => ∃ ad n cp, e = .returned (.tuple #[.slice ad n cp, .int .i64 0, .int .i64 0]) ∧ SR w' ad n (Sp.only Sp.cmpC (some (v, false)) (Sp.bumpB v)) 2 ∧ RowKit.Below W.heap.size W w') := fun W hW => sign_sl ⟨#[126]⟩ v _ W hW OKV.out (by decide) (by decide) rfl
  have H2 : Hid ((Sp.only Sp.cmpC (some (v, false)) (some (u, true))).any (inSp (some (u, false))) = decide (0 ≤ c)) := by rw [← HC.out]; exact both_means
  have H3 : Hid (∀ x : V, x.a = v.a → 0 < v.a → (Sp.only Sp.cmpC (some (v, false)) (Sp.bumpL v)).any (inSp (some (x, false))) = decide (0 ≤ cmpV x v)) := fun x h1 h2 => caret_up h1 h2
  have H4 : Hid (∀ y : V, y.a = v.a → y.b = v.b → (Sp.only Sp.cmpC (some (v, false)) (Sp.bumpB v)).any (inSp (some (y, false))) = decide (0 ≤ cmpV y v)) := fun y h1 h2 => tilde_down h1 h2
  have H5 : Hid ((Sp.only Sp.cmpC (some (v, false)) (Sp.bumpL v)).any (inSp (some (v, false))) = true) := caret_self
  have H6 : Hid ((Sp.only Sp.cmpC (some (v, false)) (Sp.bumpB v)).any (inSp (some (v, false))) = true) := tilde_self
  generalize str (txt v) = tv at *
  generalize str (txt u) = tu at *
  generalize Sp.only Sp.cmpC (some (v, false)) (some (u, true)) = L2 at *
  generalize Sp.only Sp.cmpC (some (v, false)) (Sp.bumpL v) = L3 at *
  generalize Sp.only Sp.cmpC (some (v, false)) (Sp.bumpB v) = L4 at *
  have n1 : ¬ 9223372036854775807 < op.size + tv.size := by omega
  have n2 : ¬ 9223372036854775807 < tv.size + 3 := by omega
  have n3 : ¬ 9223372036854775807 < tv.size + 3 + tu.size := by omega
  have n4 : ¬ 9223372036854775807 < 1 + tv.size := by omega
  clear sv su hsk
  have cX := X.out.c
  go_wp2_with fail
  refine (CTv.out _).mono ?_
  rintro e W7 ⟨rfl, b⟩
  replace B := hide (step B.out b)
  replace X := hide (X.out.later b)
  replace Y := hide (Y.out.later b)
  clear b cX
  go_wp2_with fail
  refine (CP.out _ (HE.out.later B.out)).mono ?_
  rintro e W8 ⟨ad1, m1, c1', rfl, r, b⟩
  have S1 := hide r
  replace B := hide (step B.out b)
  replace X := hide (X.out.later b)
  replace Y := hide (Y.out.later b)
  clear b r CP
  have KX : ∀ w', RowKit.Below W8.heap.size W8 w' → ∀ i, w'.cell? ⟨N, i, none⟩ = (c1 v)[i]? := fun w' h => (X.out.later h).c
  have KY : ∀ w', RowKit.Below W8.heap.size W8 w' → ∀ i, w'.cell? ⟨N1, i, none⟩ = (c1 u)[i]? := fun w' h => (Y.out.later h).c
  have hB0 := RowKit.Below.refl W8.heap.size W8
  have E8 := hide (HE.out.later B.out)
  go_wp2_with fail
  go_region_held3 (fun w' => RowKit.Below W8.heap.size W8 w') (first | assumption | exact (by repeat (first | with_reducible assumption | with_reducible exact Below.refl _ _ | with_reducible refine Below.setCell ?_ (by first | exact Nat.le_refl _ | (simp; done) | (simp; omega)) _ | with_reducible refine bal ?_ _ | with_reducible refine Below.alloc ?_ (by first | exact Nat.le_refl _ | (simp; done) | (simp; omega)) _ | with_reducible refine Below.drew ?_))) (first
    | (go_at_call 33; have hb2 := b2; refine (CTu.out _).mono ?_; rintro e w3 ⟨rfl, b3⟩; have b3 : RowKit.Below W8.heap.size W8 w3 := (by refine Below.trans ?_ (Below.mono b3 ?_); rotate_left; exact Below.size (by with_reducible assumption); with_reducible assumption))
    | (go_at_call 33; refine (CTv.out _).mono ?_; rintro e w2 ⟨rfl, b2⟩; have b2 : RowKit.Below W8.heap.size W8 w2 := (by refine Below.trans ?_ (Below.mono b2 ?_); rotate_left; exact Below.size (by with_reducible assumption); with_reducible assumption))
    | (go_at_call 30; refine (C2.out _ (E8.out.later (by first | assumption | exact (by repeat (first | with_reducible assumption | with_reducible exact Below.refl _ _ | with_reducible refine Below.setCell ?_ (by first | exact Nat.le_refl _ | (simp; done) | (simp; omega)) _ | with_reducible refine bal ?_ _ | with_reducible refine Below.alloc ?_ (by first | exact Nat.le_refl _ | (simp; done) | (simp; omega)) _ | with_reducible refine Below.drew ?_))))).mono ?_; rintro e w4 ⟨ad2, m2, c2', rfl, r, b4⟩; have S2 := hide r; clear r; have b4 : RowKit.Below W8.heap.size W8 w4 := (by refine Below.trans ?_ (Below.mono b4 ?_); rotate_left; exact Below.size (by with_reducible assumption); with_reducible assumption)))
  rename_i hHeld
  replace X := hide (X.out.later b4)
  replace Y := hide (Y.out.later b4)
  replace S1 := hide (S1.out.later b4)
  replace B := hide (step B.out b4)
  clear hHeld KX KY hB0 E8 CTu C2 b2 hb2 b3 b4
  have cX := X.out.c
  go_wp2_with fail
  refine (CTv.out _).mono ?_
  rintro e W9 ⟨rfl, b⟩
  replace X := hide (X.out.later b)
  replace Y := hide (Y.out.later b)
  replace S1 := hide (S1.out.later b)
  replace S2 := hide (S2.out.later b)
  replace B := hide (step B.out b)
  clear b cX
  go_wp2_with fail
  refine (C3.out _ (HE.out.later B.out)).mono ?_
  rintro e W10 ⟨ad3, m3, c3', rfl, r, b⟩
  have S3 := hide r
  replace X := hide (X.out.later b)
  replace Y := hide (Y.out.later b)
  replace S1 := hide (S1.out.later b)
  replace S2 := hide (S2.out.later b)
  replace B := hide (step B.out b)
  clear b r C3
  have cX := X.out.c
  go_wp2_with fail
  refine (CTv.out _).mono ?_
  rintro e W11 ⟨rfl, b⟩
  replace X := hide (X.out.later b)
  replace Y := hide (Y.out.later b)
  replace S1 := hide (S1.out.later b)
  replace S2 := hide (S2.out.later b)
  replace S3 := hide (S3.out.later b)
  replace B := hide (step B.out b)
  clear b cX
  go_wp2_with fail
  refine (C4.out _ (HE.out.later B.out)).mono ?_
  rintro e W12 ⟨ad4, m4, c4', rfl, r, b⟩
  have S4 := hide r
  replace X := hide (X.out.later b)
  replace Y := hide (Y.out.later b)
  replace S1 := hide (S1.out.later b)
  replace S2 := hide (S2.out.later b)
  replace S3 := hide (S3.out.later b)
  replace B := hide (step B.out b)
  clear b r C4 CTv n1 n2 n3 n4
  have cX := X.out.c
  have cY := Y.out.c
  have e1 : ¬ N = W12.heap.size := by have := X.out.lt; omega
  have e2 : ¬ N1 = W12.heap.size := by have := Y.out.lt; omega
  have e3 : ¬ N = W12.heap.size + 1 := by have := X.out.lt; omega
  have cXA := fun o => (X.out.alloc o).c
  have cYA := fun o => (Y.out.alloc o).c
  have cXB := fun o o' => ((X.out.alloc o).alloc o').c
  go_upto_region 16 with fail
  clear cX cY e1 e2 e3 cXA cYA cXB
  have P0 := (Box.new W12 (c1 ⟨v.a, u.b, u.c, u.p⟩) 34).alloc (.cells (c1 ⟨v.a, v.b, u.c, u.p⟩) 34)
  have Q0 := Box.new (W12.alloc (.cells (c1 ⟨v.a, u.b, u.c, u.p⟩) 34)) (c1 ⟨v.a, v.b, u.c, u.p⟩) 34
  have hsz : (W12.alloc (.cells (c1 ⟨v.a, u.b, u.c, u.p⟩) 34)).heap.size = W12.heap.size + 1 := by simp
  rw [hsz] at Q0
  have b : RowKit.Below W12.heap.size W12 ((W12.alloc (.cells (c1 ⟨v.a, u.b, u.c, u.p⟩) 34)).alloc (.cells (c1 ⟨v.a, v.b, u.c, u.p⟩) 34)) := (by repeat (first | with_reducible assumption | with_reducible exact Below.refl _ _ | with_reducible refine Below.setCell ?_ (by first | exact Nat.le_refl _ | (simp; done) | (simp; omega)) _ | with_reducible refine bal ?_ _ | with_reducible refine Below.alloc ?_ (by first | exact Nat.le_refl _ | (simp; done) | (simp; omega)) _ | with_reducible refine Below.drew ?_))
  replace X := hide (X.out.later b)
  replace Y := hide (Y.out.later b)
  replace S1 := hide (S1.out.later b)
  replace S2 := hide (S2.out.later b)
  replace S3 := hide (S3.out.later b)
  replace S4 := hide (S4.out.later b)
  replace B := hide (step B.out b)
  have P := hide P0
  have Q := hide Q0
  clear P0 Q0 hsz b
  generalize (W12.alloc (.cells (c1 ⟨v.a, u.b, u.c, u.p⟩) 34)).alloc (.cells (c1 ⟨v.a, v.b, u.c, u.p⟩) 34) = W13 at *
  generalize hN3 : W12.heap.size = N3 at *
  generalize hN4 : N3 + 1 = N4 at *
  clear hN3 hN4
  have OKX : Hid (V.ok ⟨v.a, u.b, u.c, u.p⟩ = true) := ok_x OKV.out OKU.out
  have OKY : Hid (V.ok ⟨v.a, v.b, u.c, u.p⟩ = true) := ok_y OKV.out OKU.out
  have hx3 := fun h => H3.out ⟨v.a, u.b, u.c, u.p⟩ rfl h
  have hy4 := H4.out ⟨v.a, v.b, u.c, u.p⟩ rfl rfl
  have HX3 := hide hx3
  have CHx : Hid (0 < v.a → ∀ W, RowKit.Below W13.heap.size W13 W → Calls Tryz.prog 24 #[.slice ad3 m3 c3', ver v.a u.b u.c u.p] W fun e w' => e = .returned (.bool (decide (0 ≤ cmpV ⟨v.a, u.b, u.c, u.p⟩ v))) ∧ RowKit.Below W.heap.size W w') := fun h W hW => by
    have h1 := has_sl W (HE.out.later (step B.out hW)) ad3 m3 c3' L3 2 ⟨v.a, u.b, u.c, u.p⟩ (S3.out.later hW) (by omega) OKX.out
    rw [HX3.out h] at h1
    exact h1
  have CHy : Hid (∀ W, RowKit.Below W13.heap.size W13 W → Calls Tryz.prog 24 #[.slice ad4 m4 c4', ver v.a v.b u.c u.p] W fun e w' => e = .returned (.bool (decide (0 ≤ cmpV ⟨v.a, v.b, u.c, u.p⟩ v))) ∧ RowKit.Below W.heap.size W w') := fun W hW => by
    have h1 := has_sl W (HE.out.later (step B.out hW)) ad4 m4 c4' L4 2 ⟨v.a, v.b, u.c, u.p⟩ (S4.out.later hW) (by omega) OKY.out
    rw [hy4] at h1
    exact h1
  have CCx : Hid (∀ W, Calls Tryz.prog 26 #[ver v.a u.b u.c u.p, ver v.a v.b v.c v.p] W fun e w' => e = .returned (.int .i64 (cmpV ⟨v.a, u.b, u.c, u.p⟩ v)) ∧ RowKit.Below W.heap.size W w') := fun W => rcmp_any ⟨v.a, u.b, u.c, u.p⟩ v W (ok_1000 OKX.out) (ok_1000 OKV.out)
  have CCy : Hid (∀ W, Calls Tryz.prog 26 #[ver v.a v.b u.c u.p, ver v.a v.b v.c v.p] W fun e w' => e = .returned (.int .i64 (cmpV ⟨v.a, v.b, u.c, u.p⟩ v)) ∧ RowKit.Below W.heap.size W w') := fun W => rcmp_any ⟨v.a, v.b, u.c, u.p⟩ v W (ok_1000 OKY.out) (ok_1000 OKV.out)
  clear hx3 hy4 HX3 H3 H4
  generalize cmpV ⟨v.a, u.b, u.c, u.p⟩ v = cx at *
  generalize cmpV ⟨v.a, v.b, u.c, u.p⟩ v = cy at *
  go_cut [31] (fun q wc => q = .bool false ∧ RowKit.Below W13.heap.size W13 wc)
  case first =>
    by_cases hA : 0 < v.a
    · have hA2 : decide (0 < v.a) = true := by simpa using hA
      have CH := hide (CHx.out hA)
      have KX : ∀ dd os i, (grow (redrawn W13 dd) os).cell? ⟨N, i, none⟩ = (c1 v)[i]? := fun dd os => (X.out.regrown dd os).c
      have KP : ∀ dd os i, (grow (redrawn W13 dd) os).cell? ⟨N3, i, none⟩ = (c1 ⟨v.a, u.b, u.c, u.p⟩)[i]? := fun dd os => (P.out.regrown dd os).c
      refine wp_region_quiet_below mixed (by kernel_rfl) ?_
      quiet_step (fail)
      quiet_step (fail)
      quiet_step (fail)
      quiet_step (fail)
      quiet_step (fail)
      quiet_step (fail)
      quiet_step (exact Calls.regrown_of (CH.out _ (below_regrown W13 _ _)))
      quiet_step (fail)
      quiet_step (fail)
      quiet_step (exact Calls.regrown_of (CCx.out _))
      quiet_step (fail)
      quiet_step (fail)
      quiet_step (fail)
      quiet_step (fail)
      refine wpQuiet_nil ?_
      intro w2 hw2
      have hHeld := regrown_below hw2
      clear hw2 KX KP
      go_wp2_with fail
      go_meet
      case rel => exact ⟨by simp, hHeld⟩
    · have hA2 : decide (0 < v.a) = false := by simpa using hA
      have cX := X.out.c
      go_quiet (fail)
      go_wp2_with fail
      go_meet
      case rel => exact ⟨rfl, belDrewN _ _⟩
  case rest =>
    obtain ⟨rfl, b⟩ := hcut
    have CH : Hid (∀ W, RowKit.Below wc.heap.size wc W → Calls Tryz.prog 24 #[.slice ad4 m4 c4', ver v.a v.b u.c u.p] W fun e w' => e = .returned (.bool (decide (0 ≤ cy))) ∧ RowKit.Below W.heap.size W w') := fun W hW => CHy.out W (step b hW)
    replace X := hide (X.out.later b)
    replace Y := hide (Y.out.later b)
    replace S1 := hide (S1.out.later b)
    replace S2 := hide (S2.out.later b)
    replace S3 := hide (S3.out.later b)
    replace S4 := hide (S4.out.later b)
    replace Q := hide (Q.out.later b)
    replace B := hide (step B.out b)
    clear b CHx CHy CCx P
    have KX : ∀ dd os i, (grow (redrawn wc dd) os).cell? ⟨N, i, none⟩ = (c1 v)[i]? := fun dd os => (X.out.regrown dd os).c
    have KQ : ∀ dd os i, (grow (redrawn wc dd) os).cell? ⟨N4, i, none⟩ = (c1 ⟨v.a, v.b, u.c, u.p⟩)[i]? := fun dd os => (Q.out.regrown dd os).c
    go_wp2_with fail
    refine wp_region_quiet_below mixed (by kernel_rfl) ?_
    quiet_step (fail)
    quiet_step (fail)
    quiet_step (exact Calls.regrown_of (CH.out _ (below_regrown wc _ _)))
    quiet_step (fail)
    quiet_step (fail)
    quiet_step (exact Calls.regrown_of (CCy.out _))
    quiet_step (fail)
    quiet_step (fail)
    quiet_step (fail)
    refine wpQuiet_nil ?_
    intro W14 hw2
    have b := regrown_below hw2
    replace X := hide (X.out.later b)
    replace Y := hide (Y.out.later b)
    replace S1 := hide (S1.out.later b)
    replace S2 := hide (S2.out.later b)
    replace S3 := hide (S3.out.later b)
    replace S4 := hide (S4.out.later b)
    replace B := hide (step B.out b)
    clear hw2 b KX KQ CH CCy Q
    have C1 : Hid (∀ W, Env W → SR W ad1 m1 l 2 → Calls Tryz.prog 24 #[.slice ad1 m1 c1', ver u.a u.b u.c u.p] W fun e w' => e = .returned (.bool bk) ∧ RowKit.Below W.heap.size W w') := fun W hW h => by
      have h1 := has_sl W hW ad1 m1 c1' l 2 u h (by omega) OKU.out
      rw [HANY.out] at h1
      exact h1
    have C2 : Hid (∀ W, Env W → SR W ad2 m2 L2 2 → Calls Tryz.prog 24 #[.slice ad2 m2 c2', ver u.a u.b u.c u.p] W fun e w' => e = .returned (.bool (decide (0 ≤ c))) ∧ RowKit.Below W.heap.size W w') := fun W hW h => by
      have h1 := has_sl W hW ad2 m2 c2' L2 2 u h (by omega) OKU.out
      rw [H2.out] at h1
      exact h1
    have C3 : Hid (∀ W, Env W → SR W ad3 m3 L3 2 → Calls Tryz.prog 24 #[.slice ad3 m3 c3', ver v.a v.b v.c v.p] W fun e w' => e = .returned (.bool true) ∧ RowKit.Below W.heap.size W w') := fun W hW h => by
      have h1 := has_sl W hW ad3 m3 c3' L3 2 v h (by omega) OKV.out
      rw [H5.out] at h1
      exact h1
    have C4 : Hid (∀ W, Env W → SR W ad4 m4 L4 2 → Calls Tryz.prog 24 #[.slice ad4 m4 c4', ver v.a v.b v.c v.p] W fun e w' => e = .returned (.bool true) ∧ RowKit.Below W.heap.size W w') := fun W hW h => by
      have h1 := has_sl W hW ad4 m4 c4' L4 2 v h (by omega) OKV.out
      rw [H6.out] at h1
      exact h1
    clear HANY H2 H5 H6
    have cY := Y.out.c
    go_wp2_with fail
    refine (C1.out _ (HE.out.later B.out) S1.out).mono ?_
    rintro e W15 ⟨rfl, b⟩
    replace X := hide (X.out.later b)
    replace Y := hide (Y.out.later b)
    replace S1 := hide (S1.out.later b)
    replace S2 := hide (S2.out.later b)
    replace S3 := hide (S3.out.later b)
    replace S4 := hide (S4.out.later b)
    replace B := hide (step B.out b)
    clear b cY
    have cY := Y.out.c
    go_wp2_with fail
    refine (C2.out _ (HE.out.later B.out) S2.out).mono ?_
    rintro e W16 ⟨rfl, b⟩
    replace X := hide (X.out.later b)
    replace Y := hide (Y.out.later b)
    replace S1 := hide (S1.out.later b)
    replace S2 := hide (S2.out.later b)
    replace S3 := hide (S3.out.later b)
    replace S4 := hide (S4.out.later b)
    replace B := hide (step B.out b)
    clear b cY
    have cX := X.out.c
    go_wp2_with fail
    refine (C3.out _ (HE.out.later B.out) S3.out).mono ?_
    rintro e W17 ⟨rfl, b⟩
    replace X := hide (X.out.later b)
    replace Y := hide (Y.out.later b)
    replace S1 := hide (S1.out.later b)
    replace S2 := hide (S2.out.later b)
    replace S3 := hide (S3.out.later b)
    replace S4 := hide (S4.out.later b)
    replace B := hide (step B.out b)
    clear b cX
    have cX := X.out.c
    go_wp2_with fail
    refine (C4.out _ (HE.out.later B.out) S4.out).mono ?_
    rintro e W18 ⟨rfl, b⟩
    replace X := hide (X.out.later b)
    replace Y := hide (Y.out.later b)
    replace S1 := hide (S1.out.later b)
    replace S2 := hide (S2.out.later b)
    replace S3 := hide (S3.out.later b)
    replace S4 := hide (S4.out.later b)
    replace B := hide (step B.out b)
    clear b cX
    go_wp2_with fail
    go_ret
    exact ⟨rfl, B.out⟩
end Go.Proofs.YtohnlhfgajipgaaGreatDoor.spanMeans
