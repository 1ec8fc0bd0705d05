/-
  What a word's spans have, by the order of versions alone.
  Contracts of the reference's Or, Not, And, Has.
-/
import Derived.Test.YthihnpjbdjmbhaaGreatDoorG15
import Derived.Test.YthihnpjbdjmbhaaGreatDoorG29
import Derived.Test.YthihnpjbdjmbhaaGreatDoorG31
import Derived.Test.YthihnpjbdjmbhaaGreatDoorG33

namespace Go.Proofs.YthihnpjbdjmbhaaGreatDoor
set_option linter.unusedVariables false
open Go.RowKit Go.Vr Go.Sort Go.Tx Go.Lib

theorem any_has (l : List Sp.S) (c : Sp.C) : l.any (inSp c) = true ↔ Sp.Has l c := by
  rw [List.any_eq_true]
  constructor
  · rintro ⟨s, hs, h⟩
    unfold inSp at h
    simp only [Bool.and_eq_true, decide_eq_true_eq] at h
    exact ⟨s, hs, h⟩
  · rintro ⟨s, hs, h⟩
    refine ⟨s, hs, ?_⟩
    unfold inSp
    simp only [Bool.and_eq_true, decide_eq_true_eq]
    exact h
theorem any_only (a b c : Sp.C) : (Sp.only Sp.cmpC a b).any (inSp c) = (decide (Sp.cmpC a c ≤ 0) && decide (Sp.cmpC c b < 0)) := by
  rw [Bool.eq_iff_iff, any_has]
  show Sp.In Sp.cmpC _ _ ↔ _
  rw [Sp.in_only Sp.ord_cut]
  simp only [Bool.and_eq_true, decide_eq_true_eq]
theorem any_nots {l : List Sp.S} (h : Sp.Row l) (c : Sp.C) (hc : Sp.InR c) : (Sp.notL l).any (inSp c) = !l.any (inSp c) := by
  rw [Bool.eq_iff_iff, any_has, Sp.has_not h, Bool.not_eq_true', ← Bool.not_eq_true, any_has]
  exact ⟨fun k => k.2, fun k => ⟨hc, k⟩⟩
theorem any_or (a b : List Sp.S) (c : Sp.C) : (Sp.nrm [a, b].flatten).any (inSp c) = (a.any (inSp c) || b.any (inSp c)) := by
  rw [Bool.eq_iff_iff, any_has, Sp.has_or, Bool.or_eq_true, any_has, any_has]
theorem any_or3 (a b d : List Sp.S) (c : Sp.C) : (Sp.nrm [a, b, d].flatten).any (inSp c) = (a.any (inSp c) || b.any (inSp c) || d.any (inSp c)) := by
  rw [Bool.eq_iff_iff, any_has, Sp.has_or3, Bool.or_eq_true, Bool.or_eq_true, any_has, any_has, any_has, or_assoc]
theorem any_and {a b : List Sp.S} (ha : Sp.Row a) (hb : Sp.Row b) (c : Sp.C) : (Sp.allL [a, b]).any (inSp c) = (a.any (inSp c) && b.any (inSp c)) := by
  rw [Bool.eq_iff_iff, any_has, Sp.has_and ha hb, Bool.and_eq_true, any_has, any_has]
theorem inR_v {v : V} (h : v.ok = true) : Sp.InR (some (v, false)) := ⟨Sp.start_le (Sp.ok_v h false), by rw [Sp.cmpC_sn]; decide⟩

section
variable {v u : V}
theorem c_ff : Sp.cmpC (some (v, false)) (some (u, false)) = cmpV v u := by
  rw [Sp.cmpC_ss]; show seq (cmpV v u) 0 = _; unfold seq; split <;> omega
theorem c_le_ff : decide (Sp.cmpC (some (v, false)) (some (u, false)) ≤ 0) = decide (0 ≤ cmpV u v) := by
  rw [c_ff, ord_ver.anti u v]; exact decide_eq_decide.2 (by omega)
theorem c_le_tf : decide (Sp.cmpC (some (v, true)) (some (u, false)) ≤ 0) = decide (0 < cmpV u v) := by
  have hb := ord_ver.bd u v
  rw [Sp.cmpC_ss]
  show decide (seq (cmpV v u) 1 ≤ 0) = _
  rw [ord_ver.anti u v]
  refine decide_eq_decide.2 ?_
  unfold seq; split <;> omega
theorem c_lt_ft : decide (Sp.cmpC (some (u, false)) (some (v, true)) < 0) = decide (cmpV u v ≤ 0) := by
  rw [Sp.cmpC_ss]
  show decide (seq (cmpV u v) (-1) < 0) = _
  refine decide_eq_decide.2 ?_
  unfold seq; split <;> omega
theorem c_lt_ff : decide (Sp.cmpC (some (u, false)) (some (v, false)) < 0) = decide (cmpV u v < 0) := by rw [c_ff]
theorem c_lt_n (p : V × Bool) : decide (Sp.cmpC (some p) none < 0) = true := rfl
theorem c_st (h : u.ok = true) : decide (Sp.cmpC Sp.start (some (u, false)) ≤ 0) = true := decide_eq_true (inR_v h).1

/-- The signs' texts, and what each asks of the order. -/
def opT : List Bs := [[], [61], [33, 61], [62], [62, 61], [60], [60, 61]]
def opW (c : Int) : List Bool := [c == 0, c == 0, c != 0, decide (0 < c), decide (0 ≤ c), decide (c < 0), decide (c ≤ 0)]
theorem eq_means : (Sp.only Sp.cmpC (some (v, false)) (some (v, true))).any (inSp (some (u, false))) = (cmpV u v == 0) := by
  rw [any_only, c_le_ff, c_lt_ft]
  rw [Bool.eq_iff_iff]
  simp only [Bool.and_eq_true, decide_eq_true_eq, beq_iff_eq]
  omega
theorem op_means (hv : v.ok = true) (hu : u.ok = true) (k : Nat) (hk : k < 7) : ∃ l, Sp.signedM (opT.getD k []) v = some l ∧ l.any (inSp (some (u, false))) = (opW (cmpV u v)).getD k false := by
  have ok1 := Sp.row_only (Sp.ok_v hv false) (Sp.ok_v hv true)
  have : k = 0 ∨ k = 1 ∨ k = 2 ∨ k = 3 ∨ k = 4 ∨ k = 5 ∨ k = 6 := by omega
  rcases this with rfl | rfl | rfl | rfl | rfl | rfl | rfl
  · exact ⟨_, rfl, eq_means⟩
  · exact ⟨_, rfl, eq_means⟩
  · refine ⟨_, rfl, ?_⟩
    rw [any_nots ok1 _ (inR_v hu), eq_means]; rfl
  · refine ⟨_, rfl, ?_⟩
    rw [any_only, c_le_tf, c_lt_n, Bool.and_true]; rfl
  · refine ⟨_, rfl, ?_⟩
    rw [any_only, c_le_ff, c_lt_n, Bool.and_true]; rfl
  · refine ⟨_, rfl, ?_⟩
    rw [any_only, c_st hu, c_lt_ff, Bool.true_and]; rfl
  · refine ⟨_, rfl, ?_⟩
    rw [any_only, c_st hu, c_lt_ft, Bool.true_and]; rfl
theorem both_means : (Sp.only Sp.cmpC (some (v, false)) (some (u, true))).any (inSp (some (u, false))) = decide (0 ≤ cmpV u v) := by
  rw [any_only, c_le_ff, c_lt_ft, ord_ver.refl]
  simp
theorem cmp_lt_int {x y : Int} (h : x < y) : compareInt x y = -1 := by unfold compareInt; rw [if_pos h]
theorem cmp_eq_int (x : Int) : compareInt x x = 0 := by unfold compareInt; rw [if_neg (by omega), if_neg (by omega)]
theorem lt_bumpA {x : V} (b : Bool) (h : x.a = v.a) : Sp.cmpC (some (x, b)) (Sp.bumpA v) < 0 := by
  unfold Sp.bumpA
  split
  · rw [Sp.cmpC_sn]; decide
  · refine Sp.cmp_lt _ _ ?_
    unfold cmpV
    simp only
    rw [h, cmp_lt_int (by omega), seq_ne (by decide)]; decide
theorem lt_bumpB {x : V} (b : Bool) (h : x.a = v.a) (h2 : x.b = v.b) : Sp.cmpC (some (x, b)) (Sp.bumpB v) < 0 := by
  unfold Sp.bumpB
  split
  · exact lt_bumpA b h
  · refine Sp.cmp_lt _ _ ?_
    unfold cmpV
    simp only
    rw [h, h2, cmp_eq_int, seq_zero, cmp_lt_int (by omega), seq_ne (by decide)]; decide
theorem lt_bumpC (b : Bool) : Sp.cmpC (some (v, b)) (Sp.bumpC v) < 0 := by
  unfold Sp.bumpC
  split
  · exact lt_bumpB b rfl rfl
  · refine Sp.cmp_lt _ _ ?_
    unfold cmpV
    simp only
    rw [cmp_eq_int, seq_zero, cmp_eq_int, seq_zero, cmp_lt_int (by omega), seq_ne (by decide)]; decide
theorem lt_bumpL (b : Bool) : Sp.cmpC (some (v, b)) (Sp.bumpL v) < 0 := by
  unfold Sp.bumpL
  split
  · exact lt_bumpA b rfl
  · split
    · exact lt_bumpB b rfl rfl
    · exact lt_bumpC b
theorem caret_self : (Sp.only Sp.cmpC (some (v, false)) (Sp.bumpL v)).any (inSp (some (v, false))) = true := by
  rw [any_only, c_le_ff, decide_eq_true (lt_bumpL false), ord_ver.refl]; rfl
theorem tilde_self : (Sp.only Sp.cmpC (some (v, false)) (Sp.bumpB v)).any (inSp (some (v, false))) = true := by
  rw [any_only, c_le_ff, decide_eq_true (lt_bumpB false rfl rfl), ord_ver.refl]; rfl
theorem caret_up {x : V} (h : x.a = v.a) (h0 : 0 < v.a) : (Sp.only Sp.cmpC (some (v, false)) (Sp.bumpL v)).any (inSp (some (x, false))) = decide (0 ≤ cmpV x v) := by
  have e : Sp.bumpL v = Sp.bumpA v := if_pos h0
  rw [e, any_only, c_le_ff, decide_eq_true (lt_bumpA false h), Bool.and_true]
theorem tilde_down {y : V} (h : y.a = v.a) (h2 : y.b = v.b) : (Sp.only Sp.cmpC (some (v, false)) (Sp.bumpB v)).any (inSp (some (y, false))) = decide (0 ≤ cmpV y v) := by
  rw [any_only, c_le_ff, decide_eq_true (lt_bumpB false h h2), Bool.and_true]
end
end Go.Proofs.YthihnpjbdjmbhaaGreatDoor

namespace Go.Proofs.YthihnpjbdjmbhaaGreatDoor
set_option linter.unusedSimpArgs false
set_option linter.unusedVariables false
open Go.RowKit Go.Vr Go.Sort Go.Tx Go.Lib
attribute [local go_sem] setCellDrewN allocDrewN

theorem map_pt {l : List Sp.S} (h : Sp.okL l) : (l.map pt).map pS = l := by
  rw [List.map_map]
  conv => rhs; rw [← List.map_id l]
  exact List.map_congr_left fun s hs => pS_pt (h s hs)
theorem rnormL (W : World) (ad : Option Addr) (n cp : Nat) (l : List Sp.S) (h : ERow ES W ad n l) (hn : n ≤ 9000) (ho : Sp.okL l) :
    Calls Tryz.prog 48 #[.slice ad n cp] W fun e w' => ∃ v', e = .returned v' ∧ EOwn ES w' W.heap.size v' (Sp.nrm l) ∧ RowKit.Below W.heap.size W w' := by
  have := rnorm_any ad n cp (l.map pt) W h.pts hn (fun q hq => by obtain ⟨s, hs, rfl⟩ := List.mem_map.1 hq; exact okPt_pt (ho s hs))
  rw [map_pt ho] at this
  exact this
set_option maxHeartbeats 4000000 in
set_option maxRecDepth 100000 in
theorem ror_sl (W : World) (ad ad' : Option Addr) (n n' cp cp' : Nat) (l k : List Sp.S) (B B' : Nat) (h : SR W ad n l B) (h' : SR W ad' n' k B') (hB : B ≤ 4200) (hB' : B' ≤ 4200) :
    Calls Tryz.prog 19 #[.slice ad n cp, .slice ad' n' cp'] W fun e w' => ∃ a2 n2 c2, e = .returned (.slice a2 n2 c2) ∧ SR w' a2 n2 (Sp.nrm [l, k].flatten) (B + B' + 1) ∧ RowKit.Below W.heap.size W w' := by
  have hle := h.le
  have hle' := h'.le
  have HL := hide h.r
  have HK := hide h'.r
  have HN : Hid (n ≤ 4200 ∧ n' ≤ 4200 ∧ l.length = n ∧ k.length = n' ∧ n ≤ B ∧ n' ≤ B') := ⟨by omega, by omega, h.r.n, h'.r.n, hle, hle'⟩
  have HOK := hide (Sp.ok_app h.row.ok h'.row.ok)
  clear h h' hle hle' hB hB'
  go_enter Tryz.func19, Tryz.ntmps19
  go_wp2_with (first
    | (refine wpList_eapp ES rfl _ _ rfl W.heap.size v1 ([] ++ l) ad' n' cp' k rfl rfl o1 (HK.out.later B1) (by have := HN.out; simp; omega) B1.size ?_; intro v2 w2 o2 g2 t2; have B2 : RowKit.Below W.heap.size W w2 := own_bel B1 o1 g2 B1.size)
    | (refine wpList_eapp ES rfl _ _ rfl W.heap.size _ [] ad n cp l rfl rfl (EOwn.fresh (at_new _ _ _ (by simp)) (by simp)) (HL.out.later (by repeat (first | with_reducible assumption | with_reducible exact Below.refl _ _ | with_reducible refine Below.setCell ?_ (by first | exact Nat.le_refl _ | (simp; done) | (simp; omega)) _ | with_reducible refine bal ?_ _ | with_reducible refine Below.alloc ?_ (by first | exact Nat.le_refl _ | (simp; done) | (simp; omega)) _ | with_reducible refine Below.drew ?_))) (by have := HN.out; simp; omega) (by simp) ?_; intro v1 w1 o1 g1 t1; have B1 : RowKit.Below W.heap.size W w1 := RowKit.Below.grown (show RowKit.Below W.heap.size W (W.alloc (.cells #[] 44)) from (by repeat (first | with_reducible assumption | with_reducible exact Below.refl _ _ | with_reducible refine Below.setCell ?_ (by first | exact Nat.le_refl _ | (simp; done) | (simp; omega)) _ | with_reducible refine bal ?_ _ | with_reducible refine Below.alloc ?_ (by first | exact Nat.le_refl _ | (simp; done) | (simp; omega)) _ | with_reducible refine Below.drew ?_))) g1 (by simp) (by intro k e; have e2 : some W.heap.size = some k := e; simp at e2; omega)))
  rw [List.nil_append] at o2
  obtain ⟨ad2, cp2, rfl, _, _, r2⟩ := o2.any
  have CN := hide (rnormL w2 ad2 _ cp2 _ r2 (by have := HN.out; simp; omega) HOK.out)
  have HB2 := hide B2
  clear r2 o2 o1 g1 g2 t1 t2 B1 B2
  generalize (l ++ k).length = m at *
  go_wp2_with fail
  refine CN.out.mono ?_
  rintro e w3 ⟨v3, rfl, o3, b3⟩
  rw [Sp.or_app] at o3
  obtain ⟨a2, n2, c2, rfl, h2⟩ := SR.of (B := B + B' + 1) o3 (by rw [← Sp.or_app]; exact Sp.Row.nrm HOK.out) (by rw [← Sp.or_app]; have := nrm_len (l ++ k); rw [List.length_append] at this; have := HN.out; omega)
  clear CN o3
  go_wp2_with fail
  go_ret
  exact ⟨_, _, _, rfl, h2, step HB2.out b3⟩

theorem notR_open (a : Sp.C) (s1 : Sp.C) (l : List Sp.S) : Sp.notR a ((s1, none) :: l) = [(a, s1)] := rfl
theorem notR_shut (a : Sp.C) (s1 : Sp.C) (p : V × Bool) (l : List Sp.S) : Sp.notR a ((s1, some p) :: l) = (a, s1) :: Sp.notR (some p) l := rfl
theorem at_set {w : World} {N : Nat} {a b c a' b' c' : Int} {p p' : ByteArray} {x x' : Bool} (h : Box w N #[.int .i64 a, .int .i64 b, .int .i64 c, .string p, .int .i64 0, .int .i64 0, .int .i64 0, .string ⟨#[]⟩, .bool x, .bool false, .bool true]) :
    Box (((((w.setCell ⟨N, 0, none⟩ (.int .i64 a')).setCell ⟨N, 1, none⟩ (.int .i64 b')).setCell ⟨N, 2, none⟩ (.int .i64 c')).setCell ⟨N, 3, none⟩ (.string p')).setCell ⟨N, 8, none⟩ (.bool x')) N #[.int .i64 a', .int .i64 b', .int .i64 c', .string p', .int .i64 0, .int .i64 0, .int .i64 0, .string ⟨#[]⟩, .bool x', .bool false, .bool true] :=
  ((((h.set 0 (.int .i64 a') (by simp)).set 1 (.int .i64 b') (by simp)).set 2 (.int .i64 c') (by simp)).set 3 (.string p') (by simp)).set 8 (.bool x') (by simp)
theorem at_grown {w : World} {N : Nat} {y0 y1 y2 y3 y8 : Value} : w.grownBy (((((w.setCell ⟨N, 0, none⟩ y0).setCell ⟨N, 1, none⟩ y1).setCell ⟨N, 2, none⟩ y2).setCell ⟨N, 3, none⟩ y3).setCell ⟨N, 8, none⟩ y8) (some N) :=
  grown_set1 (grown_set1 (grown_set1 (grown_set1 (grownBy_setCell _ _ _ _))))

set_option maxHeartbeats 8000000 in
set_option maxRecDepth 100000 in
theorem rnot_sl (W : World) (ad : Option Addr) (n cp : Nat) (l : List Sp.S) (B : Nat) (h : SR W ad n l B) (hB : B ≤ 8600) :
    Calls Tryz.prog 44 #[.slice ad n cp] W fun e w' => ∃ a2 n2 c2, e = .returned (.slice a2 n2 c2) ∧ SR w' a2 n2 (Sp.notL l) (B + 1) ∧ RowKit.Below W.heap.size W w' := by
  have HR := hide h.r
  have HO := hide h.row.ok
  have HNM := hide h.row.nm
  have HRW := hide h.row
  have HN : Hid (n ≤ 8600 ∧ l.length = n ∧ n ≤ B) := ⟨Nat.le_trans h.le hB, h.r.n, h.le⟩
  have CE : Hid (∀ (w2 : World) (a2 : Option Addr) (c2 : Nat) (o : List Sp.S), ERow ES w2 a2 o.length o → o = Sp.notR Sp.start l → Calls Tryz.prog 48 #[.slice a2 o.length c2] w2 fun e w' => ∃ a3 n3 c3, e = .returned (.slice a3 n3 c3) ∧ SR w' a3 n3 (Sp.notL l) (B + 1) ∧ RowKit.Below w2.heap.size w2 w') := by
    intro w2 a2 c2 o hr he
    have hlen := Sp.notR_len l Sp.start
    rw [← he] at hlen
    refine (rnormL w2 a2 _ c2 o hr (by have := HN.out; omega) (by rw [he]; exact Sp.notR_ok l _ HO.out Sp.ok_start ⟨_, rfl⟩)).mono ?_
    rintro e w3 ⟨v3, rfl, o3, b3⟩
    rw [he, Sp.notR_nrm HNM.out] at o3
    obtain ⟨a3, n3, c3, rfl, h3⟩ := SR.of (B := B + 1) o3 HRW.out.not (by have := not_len l; have := HN.out; omega)
    exact ⟨_, _, _, rfl, h3, b3⟩
  clear h hB HNM HRW
  go_enter Tryz.func44, Tryz.ntmps44
  go_wp2_with fail
  refine (rleast_any _).mono ?_
  rintro e w1 ⟨rfl, b1⟩
  go_wp2_with fail
  have X0 : Box (w1.alloc (.cells #[.int .i64 0, .int .i64 0, .int .i64 0, .string ⟨#[48]⟩, .int .i64 0, .int .i64 0, .int .i64 0, .string ⟨#[]⟩, .bool false, .bool false, .bool true] 44)) w1.heap.size #[.int .i64 Sp.least.a, .int .i64 Sp.least.b, .int .i64 Sp.least.c, .string Sp.least.p, .int .i64 0, .int .i64 0, .int .i64 0, .string ⟨#[]⟩, .bool false, .bool false, .bool true] := Box.new w1 _ _
  have B0 : RowKit.Below W.heap.size W (w1.alloc (.cells #[.int .i64 0, .int .i64 0, .int .i64 0, .string ⟨#[48]⟩, .int .i64 0, .int .i64 0, .int .i64 0, .string ⟨#[]⟩, .bool false, .bool false, .bool true] 44)) := step b1 (by repeat (first | with_reducible assumption | with_reducible exact Below.refl _ _ | with_reducible refine Below.setCell ?_ (by first | exact Nat.le_refl _ | (simp; done) | (simp; omega)) _ | with_reducible refine bal ?_ _ | with_reducible refine Below.alloc ?_ (by first | exact Nat.le_refl _ | (simp; done) | (simp; omega)) _ | with_reducible refine Below.drew ?_))
  have hN : Hid (W.heap.size ≤ w1.heap.size) := b1.size
  generalize w1.alloc (.cells #[.int .i64 0, .int .i64 0, .int .i64 0, .string ⟨#[48]⟩, .int .i64 0, .int .i64 0, .int .i64 0, .string ⟨#[]⟩, .bool false, .bool false, .bool true] 44) = w2 at *
  generalize w1.heap.size = N at *
  clear b1 w1
  go_loopw [3, 5] (fun o i wr => ∃ (k : Nat) (out : List Sp.S) (v : V) (x : Bool), k ≤ n ∧ i = .int .i64 k ∧ out.length ≤ k ∧ Hid (EOwn ES wr (N + 1) o out) ∧ Hid (Box wr N #[.int .i64 v.a, .int .i64 v.b, .int .i64 v.c, .string v.p, .int .i64 0, .int .i64 0, .int .i64 0, .string ⟨#[]⟩, .bool x, .bool false, .bool true]) ∧ Hid (RowKit.Below W.heap.size W wr) ∧ Hid (Sp.notR Sp.start l = out ++ Sp.notR (some (v, x)) (l.drop k))) (fun _ i _ => n - (RowKit.intOf i).toNat)
  case atStart => exact ⟨0, [], Sp.least, false, by omega, rfl, by simp, EOwn.nil _ _, X0, B0, hide (by rw [List.drop_zero]; rfl)⟩
  case round =>
    clear X0 B0
    obtain ⟨k, out, v, x, hk, rfl, hol, O1, X1, HB1, HG⟩ := hrel
    have HOL := hide hol
    clear hol
    have hn1 : n ≤ 8600 := HN.out.1
    by_cases hlt : k < n
    · obtain ⟨b, off, rfl⟩ := HR.out.spot (by omega)
      have hbW : Hid (b < W.heap.size) := HR.out.lt (by omega)
      have hlk : k < l.length := by rw [HR.out.n]; exact hlt
      have hj : l[k]? = some l[k] := List.getElem?_eq_getElem hlk
      have hs := HO.out l[k] (List.getElem_mem hlk)
      have HG2 : Hid (Sp.notR Sp.start l = out ++ Sp.notR (some (v, x)) (l[k] :: l.drop (k + 1))) := by
        show _ = _
        rw [HG.out, List.drop_eq_getElem_cons hlk]
      have hne : u3.ownBlock ≠ some N := fun e => by have := (O1.out.low N e).1; omega
      have hneb : some b ≠ u3.ownBlock := fun e => by have := (O1.out.low b e.symm).1; have := hN.out; have := hbW.out; omega
      have HRk := hide (HR.out.later HB1.out)
      generalize l[k] = s at *
      obtain ⟨s1, c2⟩ := s
      obtain ⟨⟨⟨u, y⟩, e1⟩, hs2, hs3⟩ := hs
      have e1 : s1 = some (u, y) := e1
      subst e1
      have KX : ∀ w', wr.grownBy w' u3.ownBlock → ∀ i, w'.cell? ⟨N, i, none⟩ = (#[.int .i64 v.a, .int .i64 v.b, .int .i64 v.c, .string v.p, .int .i64 0, .int .i64 0, .int .i64 0, .string ⟨#[]⟩, .bool x, .bool false, .bool true] : Array Value)[i]? := fun w' h => (X1.out.kept h hne).c
      have KD := fun w' (h : wr.grownBy w' u3.ownBlock) => ES_at (HRk.out.keptAt h hneb) k _ hj
      have d0 : ∀ w', wr.grownBy w' u3.ownBlock → w'.cell? ⟨b, off + k * 11, none⟩ = some (.int .i64 u.a) := fun w' h => (KD w' h).1
      have d1 : ∀ w', wr.grownBy w' u3.ownBlock → w'.cell? ⟨b, off + k * 11 + 1, none⟩ = some (.int .i64 u.b) := fun w' h => (KD w' h).2.1
      have d2 : ∀ w', wr.grownBy w' u3.ownBlock → w'.cell? ⟨b, off + k * 11 + 2, none⟩ = some (.int .i64 u.c) := fun w' h => (KD w' h).2.2.1
      have d3 : ∀ w', wr.grownBy w' u3.ownBlock → w'.cell? ⟨b, off + k * 11 + 3, none⟩ = some (.string u.p) := fun w' h => (KD w' h).2.2.2.1
      have d8 : ∀ w', wr.grownBy w' u3.ownBlock → w'.cell? ⟨b, off + k * 11 + 8, none⟩ = some (.bool y) := fun w' h => (KD w' h).2.2.2.2.2.2.2.2.1
      clear KD
      have i1 : (0 : Int) ≤ (k : Int) := by omega
      have i2 : (k : Int) < (n : Int) := by omega
      go_wp2_with fail
      go_region_held3 (fun w' => wr.grownBy w' u3.ownBlock) (first | with_reducible assumption | exact grownBy_below _ (by repeat (first | with_reducible assumption | with_reducible exact Below.refl _ _ | with_reducible refine Below.setCell ?_ (by first | exact Nat.le_refl _ | (simp; done) | (simp; omega)) _ | with_reducible refine bal ?_ _ | with_reducible refine Below.alloc ?_ (by first | exact Nat.le_refl _ | (simp; done) | (simp; omega)) _ | with_reducible refine Below.drew ?_))) (first
        | (refine step_eapp ES rfl _ _ rfl (N + 1) _ out (some _) 1 1 [(some (v, x), some (u, y))] rfl rfl (O1.out.later (by repeat (first | with_reducible assumption | with_reducible exact Below.refl _ _ | with_reducible refine Below.setCell ?_ (by first | exact Nat.le_refl _ | (simp; done) | (simp; omega)) _ | with_reducible refine bal ?_ _ | with_reducible refine Below.alloc ?_ (by first | exact Nat.le_refl _ | (simp; done) | (simp; omega)) _ | with_reducible refine Below.drew ?_))) (ERow.new ES wr.drew (some (v, x), some (u, y)) _) (by have := HOL.out; have := HN.out; simp; omega) (by have := X1.out.lt; simp; omega) ?_; intro v4 w4 o4 g4 t4; have g4 : wr.grownBy w4 u3.ownBlock := grownBy_trans (grownBy_below u3.ownBlock (by repeat (first | with_reducible assumption | with_reducible exact Below.refl _ _ | with_reducible refine Below.setCell ?_ (by first | exact Nat.le_refl _ | (simp; done) | (simp; omega)) _ | with_reducible refine bal ?_ _ | with_reducible refine Below.alloc ?_ (by first | exact Nat.le_refl _ | (simp; done) | (simp; omega)) _ | with_reducible refine Below.drew ?_))) g4 (.inl rfl)))
      have X4 := hide (X1.out.kept g4 hne)
      have HR4 := hide (HRk.out.keptAt g4 hneb)
      have HB4 : Hid (RowKit.Below W.heap.size W w4) := HB1.out.grown g4 HB1.out.size (fun j e => by have := hN.out; have := (O1.out.low j e).1; omega)
      have O4 := hide o4
      have hol4 : (out ++ [((some (v, x), some (u, y)) : Sp.S)]).length ≤ k + 1 := by have := HOL.out; simp; omega
      have HO4 := hide hol4
      clear KX d0 d1 d2 d3 d8 g4 t4 o4 O1 X1 HB1 HRk hneb hne hol4 HOL HG hbW
      obtain ⟨d0, d1, d2, d3, d4, d5, d6, d7, d8, d9, d10⟩ := ES_at HR4.out k _ hj
      cases c2 with
      | none =>
        have q10 : w4.cell? ⟨b, off + k * 11 + 10, none⟩ = some (.bool true) := d10
        clear d0 d1 d2 d3 d4 d5 d6 d7 d8 d9 d10
        have HG3 := hide HG2.out
        rw [notR_open] at HG3
        obtain ⟨ad4, cp4, rfl, _, _, r4⟩ := O4.out.any
        have CN := hide (CE.out w4 ad4 cp4 _ r4 HG3.out.symm)
        clear r4 HG3 HG2 CE
        generalize (out ++ [((some (v, x), some (u, y)) : Sp.S)]).length = m at *
        go_wp2_with fail
        refine CN.out.mono ?_
        rintro e w5 ⟨a5, n5, c5, rfl, h5, b5⟩
        clear CN
        go_wp2_with fail
        go_ret
        exact ⟨_, _, _, rfl, h5, step HB4.out b5⟩
      | some p =>
        obtain ⟨v2, x2⟩ := p
        have q4 : w4.cell? ⟨b, off + k * 11 + 4, none⟩ = some (.int .i64 v2.a) := d4
        have q5 : w4.cell? ⟨b, off + k * 11 + 5, none⟩ = some (.int .i64 v2.b) := d5
        have q6 : w4.cell? ⟨b, off + k * 11 + 6, none⟩ = some (.int .i64 v2.c) := d6
        have q7 : w4.cell? ⟨b, off + k * 11 + 7, none⟩ = some (.string v2.p) := d7
        have q9 : w4.cell? ⟨b, off + k * 11 + 9, none⟩ = some (.bool x2) := d9
        have q10 : w4.cell? ⟨b, off + k * 11 + 10, none⟩ = some (.bool false) := d10
        clear d0 d1 d2 d3 d4 d5 d6 d7 d8 d9 d10
        have HG3 : Hid (Sp.notR Sp.start l = (out ++ [(some (v, x), some (u, y))]) ++ Sp.notR (some (v2, x2)) (l.drop (k + 1))) := by
          show _ = _
          rw [HG2.out, notR_shut, List.append_assoc]; rfl
        have hbN : b ≠ N := by have := HR.out.lt (by omega); have := hN.out; omega
        obtain ⟨lX, cX, fX⟩ := X4.out
        have nW : Hid (w4.heap.size = w4.heap.size) := rfl
        clear HG2
        generalize hout2 : out ++ [((some (v, x), some (u, y)) : Sp.S)] = out2 at *
        clear hout2
        go_wp2_with fail
        go_region
        go_wp2_with fail
        go_roundw
        case rel =>
          refine ⟨k + 1, out2, v2, x2, by omega, by go_num, HO4.out, ?_, ?_, ?_, HG3⟩
          · exact hide ((O4.out.kept at_grown (.inr (fun e => by have := (O4.out.low N e).1; omega))).later (by repeat (first | with_reducible assumption | with_reducible exact Below.refl _ _ | with_reducible refine Below.setCell ?_ (by first | exact Nat.le_refl _ | (simp; done) | (simp; omega)) _ | with_reducible refine bal ?_ _ | with_reducible refine Below.alloc ?_ (by first | exact Nat.le_refl _ | (simp; done) | (simp; omega)) _ | with_reducible refine Below.drew ?_)))
          · exact hide ((at_set X4.out).drew)
          · have hb9 := HB4.out.grown (at_grown (N := N) (y0 := .int .i64 v2.a) (y1 := .int .i64 v2.b) (y2 := .int .i64 v2.c) (y3 := .string v2.p) (y8 := .bool x2)) HB4.out.size (fun j (e : some N = some j) => by have := hN.out; have := Option.some.inj e; omega)
            exact hide hb9.drew
        case measure => simp [RowKit.intOf]; omega
    · have hd : decide ((k : Int) < (n : Int)) = false := by simp; omega
      have HG2 : Hid (out ++ [((some (v, x), none) : Sp.S)] = Sp.notR Sp.start l) := by
        show _ = _
        rw [HG.out, List.drop_of_length_le (by have := HN.out; omega)]; rfl
      obtain ⟨_, cX, _⟩ := X1.out
      go_wp2_with (refine wpList_eapp ES rfl _ _ rfl (N + 1) _ out (some _) 1 1 [(some (v, x), none)] rfl rfl (O1.out.later (by repeat (first | with_reducible assumption | with_reducible exact Below.refl _ _ | with_reducible refine Below.setCell ?_ (by first | exact Nat.le_refl _ | (simp; done) | (simp; omega)) _ | with_reducible refine bal ?_ _ | with_reducible refine Below.alloc ?_ (by first | exact Nat.le_refl _ | (simp; done) | (simp; omega)) _ | with_reducible refine Below.drew ?_))) (ERow.new ES wr (some (v, x), none) _) (by have := HOL.out; have := HN.out; simp; omega) (by have := X1.out.lt; simp; omega) ?_; intro v4 w4 o4 g4 t4)
      have B4 : RowKit.Below W.heap.size W w4 := own_bel (step HB1.out (show RowKit.Below wr.heap.size wr _ from (by repeat (first | with_reducible assumption | with_reducible exact Below.refl _ _ | with_reducible refine Below.setCell ?_ (by first | exact Nat.le_refl _ | (simp; done) | (simp; omega)) _ | with_reducible refine bal ?_ _ | with_reducible refine Below.alloc ?_ (by first | exact Nat.le_refl _ | (simp; done) | (simp; omega)) _ | with_reducible refine Below.drew ?_)))) ((O1.out.later (by repeat (first | with_reducible assumption | with_reducible exact Below.refl _ _ | with_reducible refine Below.setCell ?_ (by first | exact Nat.le_refl _ | (simp; done) | (simp; omega)) _ | with_reducible refine bal ?_ _ | with_reducible refine Below.alloc ?_ (by first | exact Nat.le_refl _ | (simp; done) | (simp; omega)) _ | with_reducible refine Below.drew ?_))).base (by have := hN.out; omega)) g4 (by have := HB1.out.size; simp; omega)
      obtain ⟨ad4, cp4, rfl, _, _, r4⟩ := o4.any
      have CN := hide (CE.out w4 ad4 cp4 _ r4 HG2.out)
      have HB4 := hide B4
      clear r4 o4 HG2 CE B4 g4 t4
      generalize (out ++ [((some (v, x), none) : Sp.S)]).length = m at *
      go_wp2_with fail
      refine CN.out.mono ?_
      rintro e w5 ⟨a5, n5, c5, rfl, h5, b5⟩
      clear CN
      go_wp2_with fail
      go_ret
      exact ⟨_, _, _, rfl, h5, step HB4.out b5⟩

set_option maxHeartbeats 4000000 in
theorem rand_sl (W : World) (ad ad' : Option Addr) (n n' cp cp' : Nat) (l k : List Sp.S) (B B' : Nat) (h : SR W ad n l B) (h' : SR W ad' n' k B') (hB : B ≤ 4000) (hB' : B' ≤ 4000) :
    Calls Tryz.prog 49 #[.slice ad n cp, .slice ad' n' cp'] W fun e w' => ∃ a2 n2 c2, e = .returned (.slice a2 n2 c2) ∧ SR w' a2 n2 (Sp.allL [l, k]) (B + 1 + (B' + 1) + 1 + 1) ∧ RowKit.Below W.heap.size W w' := by
  have S1 := hide h
  have S2 := hide h'
  clear h h'
  go_enter Tryz.func49, Tryz.ntmps49
  go_wp2_with fail
  refine (rnot_sl _ _ _ _ _ _ S1.out (by omega)).mono ?_
  rintro e w1 ⟨a1, n1, c1, rfl, h1, b1⟩
  have T1 := hide h1
  replace S2 := hide (S2.out.later b1)
  have HB := hide b1
  clear h1 b1
  go_wp2_with fail
  refine (rnot_sl _ _ _ _ _ _ S2.out (by omega)).mono ?_
  rintro e w2 ⟨a2, n2, c2, rfl, h2, b2⟩
  have T2 := hide h2
  replace T1 := hide (T1.out.later b2)
  replace HB := hide (step HB.out b2)
  clear h2 b2
  go_wp2_with fail
  refine (ror_sl _ _ _ _ _ _ _ _ _ _ _ T1.out T2.out (by omega) (by omega)).mono ?_
  rintro e w3 ⟨a3, n3, c3, rfl, h3, b3⟩
  have T3 := hide h3
  replace HB := hide (step HB.out b3)
  clear h3 b3
  go_wp2_with fail
  refine (rnot_sl _ _ _ _ _ _ T3.out (by omega)).mono ?_
  rintro e w4 ⟨a4, n4, c4, rfl, h4, b4⟩
  rw [← Sp.or_app, Sp.and_ref] at h4
  have T4 := hide h4
  replace HB := hide (step HB.out b4)
  clear h4 b4
  go_wp2_with fail
  go_ret
  exact ⟨_, _, _, rfl, T4.out, HB.out⟩
end Go.Proofs.YthihnpjbdjmbhaaGreatDoor
