/-
  Contract of the versions' Make: what it answers is a version that may be. Versions as values, as variables.
-/
import Derived.Test.YtnmmhihfnphjeaaGreatDoorG11
import Derived.Test.YtnmmhihfnphjeaaGreatDoorG27

namespace Go.Proofs.YtnmmhihfnphjeaaGreatDoor
set_option linter.unusedSimpArgs false
set_option linter.unusedVariables false
open Go.RowKit Go.Vr Go.Sort Go.Tx Go.Lib
attribute [local go_sem] setCellDrewN allocDrewN

/-- A version as a value. -/
abbrev ver (a b c : Int) (p : ByteArray) : Value := .agg #[.int .i64 a, .int .i64 b, .int .i64 c, .string p]
abbrev val (v : V) : Value := ver v.a v.b v.c v.p
/-- A variable of the call's own that holds a version. -/
structure VarAt (w : World) (N : Nat) (v : V) : Prop where
  lt : N < w.heap.size
  c0 : w.cell? ⟨N, 0, none⟩ = some (.int .i64 v.a)
  c1 : w.cell? ⟨N, 1, none⟩ = some (.int .i64 v.b)
  c2 : w.cell? ⟨N, 2, none⟩ = some (.int .i64 v.c)
  c3 : w.cell? ⟨N, 3, none⟩ = some (.string v.p)
  f0 : w.frozen? ⟨N, 0, none⟩ = false
  f1 : w.frozen? ⟨N, 1, none⟩ = false
  f2 : w.frozen? ⟨N, 2, none⟩ = false
  f3 : w.frozen? ⟨N, 3, none⟩ = false
theorem VarAt.later {w w' : World} {N : Nat} {v : V} (h : VarAt w N v) (b : Below w.heap.size w w') : VarAt w' N v :=
  ⟨Nat.lt_of_lt_of_le h.lt b.size, cellLater b h.c0, cellLater b h.c1, cellLater b h.c2, cellLater b h.c3, (b.frozen (p := ⟨N, 0, none⟩) h.lt).trans h.f0, (b.frozen (p := ⟨N, 1, none⟩) h.lt).trans h.f1, (b.frozen (p := ⟨N, 2, none⟩) h.lt).trans h.f2, (b.frozen (p := ⟨N, 3, none⟩) h.lt).trans h.f3⟩
theorem VarAt.new (w : World) (v : V) : VarAt (w.alloc (.cells #[.int .i64 v.a, .int .i64 v.b, .int .i64 v.c, .string v.p] 92)) w.heap.size v :=
  ⟨by simp, by simp [go_sem], by simp [go_sem], by simp [go_sem], by simp [go_sem], by simp [go_sem], by simp [go_sem], by simp [go_sem], by simp [go_sem]⟩
def mt : List ByteArray := [⟨#[48]⟩, ⟨#[49]⟩, ⟨#[49, 48]⟩, ⟨#[50]⟩, ⟨#[97]⟩, ⟨#[114, 99]⟩, ⟨#[114, 99, 49]⟩, ⟨#[65]⟩, ⟨#[45]⟩, ⟨#[48, 97]⟩, ⟨#[97, 108, 112, 104, 97]⟩, ⟨#[57, 57, 57, 57, 57, 57, 57, 57, 57, 57]⟩, ⟨#[50, 48, 50, 48, 48, 49, 48, 49, 48, 48, 48, 48, 48, 48, 45, 97, 98, 99, 100, 101, 102, 48, 49, 50, 51, 52, 53]⟩]
abbrev mobj : Obj := .cells #[.string ⟨#[48]⟩, .string ⟨#[49]⟩, .string ⟨#[49, 48]⟩, .string ⟨#[50]⟩, .string ⟨#[97]⟩, .string ⟨#[114, 99]⟩, .string ⟨#[114, 99, 49]⟩, .string ⟨#[65]⟩, .string ⟨#[45]⟩, .string ⟨#[48, 97]⟩, .string ⟨#[97, 108, 112, 104, 97]⟩, .string ⟨#[57, 57, 57, 57, 57, 57, 57, 57, 57, 57]⟩, .string ⟨#[50, 48, 50, 48, 48, 49, 48, 49, 48, 48, 48, 48, 48, 48, 45, 97, 98, 99, 100, 101, 102, 48, 49, 50, 51, 52, 53]⟩] 9
theorem m_words : ∀ i, i < 13 → words (mt.getD i ⟨#[]⟩).data.toList = [(mt.getD i ⟨#[]⟩).data.toList] ∧ wordOk (mt.getD i ⟨#[]⟩).data.toList = true ∧ (mt.getD i ⟨#[]⟩).size ≤ 27 := by
  have h : ((List.range 13).all fun i => decide (words (mt.getD i ⟨#[]⟩).data.toList = [(mt.getD i ⟨#[]⟩).data.toList]) && (wordOk (mt.getD i ⟨#[]⟩).data.toList && decide ((mt.getD i ⟨#[]⟩).size ≤ 27))) = true := by decide +kernel
  intro i hi
  have := List.all_eq_true.1 h i (List.mem_range.2 hi)
  rw [Bool.and_eq_true, Bool.and_eq_true] at this
  exact ⟨of_decide_eq_true this.1, this.2.1, of_decide_eq_true this.2.2⟩
/-- The row of words in memory. -/
def MRow (w : World) (N : Nat) : Prop := N < w.heap.size ∧ ∀ j, j < 13 → w.cell? ⟨N, j, none⟩ = some (.string (mt.getD j ⟨#[]⟩))
theorem m_row (w : World) : MRow (w.alloc mobj) w.heap.size := by
  refine ⟨by simp, fun j hj => ?_⟩
  have e : mobj = .cells (mt.map Value.string).toArray 9 := rfl
  rw [e]
  have hl : j < mt.length := hj
  simp [List.getElem?_eq_getElem hl]
theorem MRow.set {w : World} {N M o : Nat} (h : MRow w N) (v : Value) (hne : M ≠ N) : MRow (w.setCell ⟨M, o, none⟩ v) N :=
  ⟨by simpa [World.setCell] using h.1, fun j hj => by rw [World.cell?_setCell_other _ _ _ _ (by simp [hne])]; exact h.2 j hj⟩
theorem MRow.drew {w : World} {N : Nat} (h : MRow w N) : MRow w.drew N := h
theorem VarAt.set3 {w : World} {N : Nat} {a b c : Int} {p : ByteArray} (h : VarAt w N ⟨a, b, c, p⟩) (q : ByteArray) : VarAt (w.setCell ⟨N, 3, none⟩ (.string q)) N ⟨a, b, c, q⟩ := by
  obtain ⟨lt, c0, c1, c2, c3, f0, f1, f2, f3⟩ := h
  exact ⟨by simpa [World.setCell] using lt, by simp [go_sem, c0, c1, c2, c3], by simp [go_sem, c0, c1, c2, c3], by simp [go_sem, c0, c1, c2, c3], by simp [go_sem, c0, c1, c2, c3], by simp [go_sem, f0], by simp [go_sem, f1], by simp [go_sem, f2], by simp [go_sem, f3]⟩
theorem VarAt.far3 {w : World} {N M o : Nat} {u : V} (h : VarAt w M u) (v : Value) (hne : N ≠ M) : VarAt (w.setCell ⟨N, o, none⟩ v) M u := by
  obtain ⟨lt, c0, c1, c2, c3, f0, f1, f2, f3⟩ := h
  exact ⟨by simpa [World.setCell] using lt, by simp [go_sem, c0, hne], by simp [go_sem, c1, hne], by simp [go_sem, c2, hne], by simp [go_sem, c3, hne], by simp [go_sem, f0], by simp [go_sem, f1], by simp [go_sem, f2], by simp [go_sem, f3]⟩
theorem VarAt.drew {w : World} {N : Nat} {u : V} (h : VarAt w N u) : VarAt w.drew N u := ⟨h.lt, h.c0, h.c1, h.c2, h.c3, h.f0, h.f1, h.f2, h.f3⟩

/-- So many words, dotted. -/
def G (k : Nat) (p : ByteArray) : Prop := p.size ≤ 28 * k ∧ (k = 0 → p.data.toList = []) ∧ (k ≠ 0 → (words p.data.toList).all wordOk = true)
theorem G.first {p x : ByteArray} (h : G 0 p) (h1 : words x.data.toList = [x.data.toList]) (h2 : wordOk x.data.toList = true) (h3 : x.size ≤ 27) : G 1 (p ++ x) := by
  obtain ⟨a, b, c⟩ := h
  refine ⟨by rw [ByteArray.size_append]; omega, fun e => by omega, fun _ => ?_⟩
  rw [ba_app, b rfl, List.nil_append, h1]
  simp [h2]
theorem G.more {k : Nat} {p x : ByteArray} (h : G k p) (hk : k ≠ 0) (h1 : words x.data.toList = [x.data.toList]) (h2 : wordOk x.data.toList = true) (h3 : x.size ≤ 27) : G (k + 1) ((p ++ ⟨#[46]⟩) ++ x) := by
  obtain ⟨a, b, c⟩ := h
  refine ⟨by rw [ByteArray.size_append, ByteArray.size_append]; have : (ByteArray.mk #[46]).size = 1 := rfl; omega, fun e => by omega, fun _ => ?_⟩
  have e : ((p ++ ⟨#[46]⟩) ++ x).data.toList = p.data.toList ++ 46 :: x.data.toList := by rw [ba_app, ba_app]; simp
  rw [e, words_app, h1, List.all_append, c hk]
  simp [h2]
theorem G.ok {k : Nat} {p : ByteArray} (h : G k p) (hs : p.size ≤ 40) : preOk p.data.toList = true := by
  obtain ⟨a, b, c⟩ := h
  unfold preOk
  rw [len_eq]
  by_cases hk : k = 0
  · simp [hs, b hk]
  · simp only [c hk, Bool.or_true, Bool.and_true]; simpa using hs
theorem quoN (k : Nat) (m : Int) (h : 1 ≤ m) (hk : k < 1099511627776) : ∃ d : Nat, Int.tdiv (k : Int) m = (d : Int) ∧ d < 1099511627776 ∧ IntKind.i64.wrap (d : Int) = d := by
  have h1 : Int.tdiv (k : Int) m = (k : Int) / m := Int.tdiv_eq_ediv_of_nonneg (by omega)
  have h2 : 0 ≤ (k : Int) / m := Int.ediv_nonneg (by omega) (by omega)
  have h3 : (k : Int) / m ≤ k := Int.ediv_le_self _ (by omega)
  exact ⟨((k : Int) / m).toNat, by rw [h1]; omega, by omega, by rw [IntKind.wrap_i64]; omega⟩
theorem remN (k : Nat) (m : Int) (h : 1 ≤ m) : ∃ d : Nat, Int.tmod (k : Int) m = (d : Int) ∧ (d : Int) < m := by
  have h1 : Int.tmod (k : Int) m = (k : Int) % m := Int.tmod_eq_emod_of_nonneg (by omega)
  have h2 : 0 ≤ (k : Int) % m := Int.emod_nonneg _ (by omega)
  have h3 : (k : Int) % m < m := Int.emod_lt_of_pos _ (by omega)
  exact ⟨((k : Int) % m).toNat, by rw [h1]; omega, by omega⟩
theorem made_ok {xa xb xc : Int} {q : ByteArray} (ha : 0 ≤ xa ∧ xa ≤ 999999) (hb : 0 ≤ xb ∧ xb ≤ 999999) (hc : 0 ≤ xc ∧ xc ≤ 999999) (hq : preOk q.data.toList = true) : (V.mk xa xb xc q).ok = true := by
  unfold V.ok verOk partOk
  simp [ha.1, ha.2, hb.1, hb.2, hc.1, hc.2, hq]

set_option maxHeartbeats 4000000 in
set_option maxRecDepth 100000 in
theorem make_any (n m : Int) (w : World) (h0 : -9223372036854775808 ≤ n ∧ n ≤ 9223372036854775807) (h1 : -9223372036854775808 ≤ m ∧ m ≤ 9223372036854775807) :
    Calls Tryz.prog 47 #[.int .i64 n, .int .i64 m] w fun e w' => ∃ v : V, e = .returned (val v) ∧ v.ok = true ∧ Below w.heap.size w w' := by
  obtain ⟨n1, n2⟩ := h0
  obtain ⟨m1, m2⟩ := h1
  go_enter Tryz.func47, Tryz.ntmps47
  go_wp2_with fail
  refine (within_nat _ _ _ (by omega) (by omega) (by omega) (by omega)).mono ?_
  rintro e w1 ⟨k, rfl, hk, -, rfl⟩
  have hk2 : k < 1099511627776 := by omega
  obtain ⟨x0, e0, l0⟩ := remN k 3 (by omega)
  obtain ⟨q1, e1, l1, r1⟩ := quoN k 3 (by omega) hk2
  obtain ⟨x1, e2, l2⟩ := remN q1 4 (by omega)
  obtain ⟨q2, e3, l3, r2⟩ := quoN k 12 (by omega) hk2
  obtain ⟨x2, e4, l4⟩ := remN q2 4 (by omega)
  obtain ⟨q3, e5, l5, r3⟩ := quoN k 48 (by omega) hk2
  obtain ⟨x3, e6, l6⟩ := remN q3 9 (by omega)
  obtain ⟨q4, e7, l7, r4⟩ := quoN k 432 (by omega) hk2
  obtain ⟨x4, e8, l8⟩ := remN q4 2 (by omega)
  have r5 : IntKind.i64.wrap (999999 - (x4 : Int)) = 999999 - (x4 : Int) := by rw [IntKind.wrap_i64]; omega
  by_cases c0 : x3 = 0
  · have t0 : ((x3 : Int) == 0) = true := by simp; omega
    go_wp2_with fail
    have ba1 : Below w.heap.size w (w.alloc (.cells #[.int .i64 0, .int .i64 0, .int .i64 0, .string ⟨#[]⟩] 92)) := (Below.refl _ _).alloc (Nat.le_refl _) _
    have ba2 := ba1.alloc ba1.size (.cells #[.int .i64 (999999 - (x4 : Int)), .int .i64 ((x1 : Int)), .int .i64 ((x2 : Int)), .string ⟨#[]⟩] 92)
    have ba3 := ba2.alloc ba2.size mobj
    have V00 : VarAt (w.alloc (.cells #[.int .i64 0, .int .i64 0, .int .i64 0, .string ⟨#[]⟩] 92)) w.heap.size V.zero := VarAt.new w V.zero
    have V0 := ((V00.later ((Below.refl _ _).alloc (Nat.le_refl _) (.cells #[.int .i64 (999999 - (x4 : Int)), .int .i64 ((x1 : Int)), .int .i64 ((x2 : Int)), .string ⟨#[]⟩] 92))).later ((Below.refl _ _).alloc (Nat.le_refl _) mobj))
    have V1 := ((VarAt.new (w.alloc (.cells #[.int .i64 0, .int .i64 0, .int .i64 0, .string ⟨#[]⟩] 92)) ⟨999999 - (x4 : Int), (x1 : Int), (x2 : Int), ⟨#[]⟩⟩).later ((Below.refl _ _).alloc (Nat.le_refl _) mobj))
    have MR := m_row ((w.alloc (.cells #[.int .i64 0, .int .i64 0, .int .i64 0, .string ⟨#[]⟩] 92)).alloc (.cells #[.int .i64 (999999 - (x4 : Int)), .int .i64 ((x1 : Int)), .int .i64 ((x2 : Int)), .string ⟨#[]⟩] 92))
    have z1 : (w.alloc (.cells #[.int .i64 0, .int .i64 0, .int .i64 0, .string ⟨#[]⟩] 92)).heap.size = w.heap.size + 1 := by simp
    have z2 : ((w.alloc (.cells #[.int .i64 0, .int .i64 0, .int .i64 0, .string ⟨#[]⟩] 92)).alloc (.cells #[.int .i64 (999999 - (x4 : Int)), .int .i64 ((x1 : Int)), .int .i64 ((x2 : Int)), .string ⟨#[]⟩] 92)).heap.size = w.heap.size + 1 + 1 := by simp
    rw [z1] at V1
    rw [z2] at MR
    clear z1 z2 ba1 ba2 V00
    have pa : (0 : Int) ≤ 999999 - (x4 : Int) ∧ 999999 - (x4 : Int) ≤ 999999 := by omega
    have pb : (0 : Int) ≤ (x1 : Int) ∧ (x1 : Int) ≤ 999999 := by omega
    have pc : (0 : Int) ≤ (x2 : Int) ∧ (x2 : Int) ≤ 999999 := by omega
    generalize hw2 : ((w.alloc (.cells #[.int .i64 0, .int .i64 0, .int .i64 0, .string ⟨#[]⟩] 92)).alloc (.cells #[.int .i64 (999999 - (x4 : Int)), .int .i64 ((x1 : Int)), .int .i64 ((x2 : Int)), .string ⟨#[]⟩] 92)).alloc mobj = w2 at *
    clear hw2
    generalize hxa : 999999 - (x4 : Int) = xa at *
    generalize hxb : (x1 : Int) = xb at *
    generalize hxc : (x2 : Int) = xc at *
    clear hxa hxb hxc e0 l0 e1 l1 r1 e2 l2 e3 l3 r2 e4 l4 e5 l5 r3 e6 l6 e7 l7 r4 e8 l8 r5
    refine (within_nat _ _ _ (by omega) (by omega) (by omega) (by omega)).mono ?_
    rintro e w3 ⟨j0, rfl, hj0, -, rfl⟩
    go_wp2_with fail
    go_loopw [8, 9] (fun j i wr => ∃ J k : Nat, ∃ p : ByteArray, J < 1099511627776 ∧ k ≤ 3 ∧ j = .int .i64 J ∧ i = .int .i64 k ∧ G k p ∧ VarAt wr w.heap.size V.zero ∧ VarAt wr (w.heap.size + 1) ⟨xa, xb, xc, p⟩ ∧ MRow wr (w.heap.size + 1 + 1) ∧ Below w.heap.size w wr) (fun _ i _ => 4 - (RowKit.intOf i).toNat)
    case atStart => exact ⟨j0, 0, ⟨#[]⟩, by omega, by omega, rfl, rfl, ⟨by decide, fun _ => rfl, fun h => absurd rfl h⟩, V0, V1, MR, ba3⟩
    case round =>
      obtain ⟨J, k, p, hJ, hk, rfl, rfl, hG, VZ, VM, MW, hB⟩ := hrel
      clear V0 V1 MR ba3
      have HG := hide hG
      have hps : p.size ≤ 28 * k := hG.1
      clear hG
      have HVZ := hide VZ
      have HVM := hide VM
      have HMW := hide MW
      have HB := hide hB
      clear VZ VM MW hB
      obtain ⟨r, f0, g0⟩ := remN J 4 (by omega)
      by_cases hlt : k < r
      · obtain ⟨J4, f1, g1, s1⟩ := quoN J 4 (by omega) hJ
        obtain ⟨x, f2, g2⟩ := remN J4 13 (by omega)
        obtain ⟨J13, f3, g3, s3⟩ := quoN J 13 (by omega) hJ
        have hx : x < 13 := by omega
        have cx := HMW.out.2 x hx
        obtain ⟨t1, t2, t3⟩ := m_words x hx
        have T1 := hide t1
        have T2 := hide t2
        clear t1 t2
        generalize hy : mt.getD x ⟨#[]⟩ = y at *
        have HY := hide hy
        clear hy
        have i1 : (0 : Int) ≤ (x : Int) := by omega
        have i2 : (x : Int) < 13 := by omega
        have dl : decide ((k : Int) < (r : Int)) = true := by simp; omega
        obtain ⟨lt, c0, c1, c2, c3, v0, v1, v2, v3⟩ := HVM.out
        by_cases hk0 : k = 0
        · subst hk0
          have n1 : ¬ 9223372036854775807 < p.size + y.size := by omega
          have dk : decide ((0 : Int) < ((0 : Nat) : Int)) = false := by simp
          have NG := hide (HG.out.first T1.out T2.out t3)
          go_wp2_with fail
          go_region
          go_wp2_with fail
          go_roundw
          case rel => exact ⟨J13, 1, p ++ y, g3, by omega, by go_num, by go_num, NG.out, (HVZ.out.far3 _ (by omega)).drew, (HVM.out.set3 _).drew, (HMW.out.set _ (by omega)).drew, (HB.out.setCell (by simp) _).drew⟩
          case measure => simp [RowKit.intOf]
        · have n1 : ¬ 9223372036854775807 < p.size + 1 := by omega
          generalize hK : (k : Int) = K at *
          have dk : decide (0 < K) = true := by simp; omega
          have wK : IntKind.i64.wrap (K + 1) = K + 1 := by rw [IntKind.wrap_i64]; omega
          have HK := hide hK
          clear hK
          have NG := hide (HG.out.more hk0 T1.out T2.out t3)
          have HK0 := hide hk0
          have HPS := hide hps
          have HT3 := hide t3
          clear hk0 hps t3
          go_wp2_with fail
          have hps := HPS.out
          have t3 := HT3.out
          have V3 := hide (HVM.out.set3 (p ++ ⟨#[46]⟩))
          have Z3 := hide (HVZ.out.far3 (N := w.heap.size + 1) (o := 3) (.string (p ++ ⟨#[46]⟩)) (by omega))
          have M3 := hide (HMW.out.set (M := w.heap.size + 1) (o := 3) (.string (p ++ ⟨#[46]⟩)) (by omega))
          have B3 := hide (HB.out.setCell (p := ⟨w.heap.size + 1, 3, none⟩) (by simp) (.string (p ++ ⟨#[46]⟩)))
          have n2 : ¬ 9223372036854775807 < (p ++ ⟨#[46]⟩).size + y.size := by rw [ByteArray.size_append]; have : (ByteArray.mk #[46]).size = 1 := rfl; omega
          clear lt c0 c1 c2 c3 v0 v1 v2 v3 cx n1
          have cx := M3.out.2 x hx
          rw [HY.out] at cx
          obtain ⟨lt, c0, c1, c2, c3, v0, v1, v2, v3⟩ := V3.out
          generalize p ++ ⟨#[46]⟩ = p1 at *
          generalize wr.setCell ⟨w.heap.size + 1, 3, none⟩ (.string p1) = w4 at *
          go_region
          go_wp2_with fail
          go_roundw
          case rel => exact ⟨J13, k + 1, p1 ++ y, g3, by omega, by go_num, by rw [← HK.out]; simp, NG.out, (Z3.out.far3 _ (by omega)).drew, (V3.out.set3 _).drew, (M3.out.set _ (by omega)).drew, (B3.out.setCell (by simp) _).drew⟩
          case measure => have := HK.out; simp [RowKit.intOf]; omega
      · have dl : decide ((k : Int) < (r : Int)) = false := by simp; omega
        obtain ⟨lt, c0, c1, c2, c3, v0, v1, v2, v3⟩ := HVM.out
        obtain ⟨zt, z0, z1, z2, z3, y0, y1, y2, y3⟩ := HVZ.out
        by_cases hs : p.size ≤ 40
        · have ds : decide ((40 : Int) < (p.size : Int)) = false := by simp; omega
          have OK := hide (made_ok pa pb pc (HG.out.ok hs))
          go_wp2_with fail
          exact bodyPost_ret (v := val ⟨xa, xb, xc, p⟩) (by simp [results, Tryz.results47, go_sem, z0, z1, z2, z3]) rfl ⟨_, rfl, OK.out, (((HB.out.setCell (by simp) _).setCell (by simp) _).setCell (by simp) _).setCell (by simp) _⟩
        · have ds : decide ((40 : Int) < (p.size : Int)) = true := by simp; omega
          have OK := hide (made_ok (q := ⟨#[114, 99, 46, 49]⟩) pa pb pc (by decide +kernel))
          go_wp2_with fail
          exact bodyPost_ret (v := val ⟨xa, xb, xc, ⟨#[114, 99, 46, 49]⟩⟩) (by simp [results, Tryz.results47, go_sem, z0, z1, z2, z3]) rfl ⟨_, rfl, OK.out, ((((HB.out.setCell (by simp) _).setCell (by simp) _).setCell (by simp) _).setCell (by simp) _).setCell (by simp) _⟩
  have t0 : ((x3 : Int) == 0) = false := by simp; omega
  by_cases c1 : x3 = 1
  · have t1 : ((x3 : Int) == 1) = true := by simp; omega
    go_wp2_with fail
    have ba1 : Below w.heap.size w (w.alloc (.cells #[.int .i64 0, .int .i64 0, .int .i64 0, .string ⟨#[]⟩] 92)) := (Below.refl _ _).alloc (Nat.le_refl _) _
    have ba2 := ba1.alloc ba1.size (.cells #[.int .i64 ((x0 : Int)), .int .i64 (999999 - (x4 : Int)), .int .i64 ((x2 : Int)), .string ⟨#[]⟩] 92)
    have ba3 := ba2.alloc ba2.size mobj
    have V00 : VarAt (w.alloc (.cells #[.int .i64 0, .int .i64 0, .int .i64 0, .string ⟨#[]⟩] 92)) w.heap.size V.zero := VarAt.new w V.zero
    have V0 := ((V00.later ((Below.refl _ _).alloc (Nat.le_refl _) (.cells #[.int .i64 ((x0 : Int)), .int .i64 (999999 - (x4 : Int)), .int .i64 ((x2 : Int)), .string ⟨#[]⟩] 92))).later ((Below.refl _ _).alloc (Nat.le_refl _) mobj))
    have V1 := ((VarAt.new (w.alloc (.cells #[.int .i64 0, .int .i64 0, .int .i64 0, .string ⟨#[]⟩] 92)) ⟨(x0 : Int), 999999 - (x4 : Int), (x2 : Int), ⟨#[]⟩⟩).later ((Below.refl _ _).alloc (Nat.le_refl _) mobj))
    have MR := m_row ((w.alloc (.cells #[.int .i64 0, .int .i64 0, .int .i64 0, .string ⟨#[]⟩] 92)).alloc (.cells #[.int .i64 ((x0 : Int)), .int .i64 (999999 - (x4 : Int)), .int .i64 ((x2 : Int)), .string ⟨#[]⟩] 92))
    have z1 : (w.alloc (.cells #[.int .i64 0, .int .i64 0, .int .i64 0, .string ⟨#[]⟩] 92)).heap.size = w.heap.size + 1 := by simp
    have z2 : ((w.alloc (.cells #[.int .i64 0, .int .i64 0, .int .i64 0, .string ⟨#[]⟩] 92)).alloc (.cells #[.int .i64 ((x0 : Int)), .int .i64 (999999 - (x4 : Int)), .int .i64 ((x2 : Int)), .string ⟨#[]⟩] 92)).heap.size = w.heap.size + 1 + 1 := by simp
    rw [z1] at V1
    rw [z2] at MR
    clear z1 z2 ba1 ba2 V00
    have pa : (0 : Int) ≤ (x0 : Int) ∧ (x0 : Int) ≤ 999999 := by omega
    have pb : (0 : Int) ≤ 999999 - (x4 : Int) ∧ 999999 - (x4 : Int) ≤ 999999 := by omega
    have pc : (0 : Int) ≤ (x2 : Int) ∧ (x2 : Int) ≤ 999999 := by omega
    generalize hw2 : ((w.alloc (.cells #[.int .i64 0, .int .i64 0, .int .i64 0, .string ⟨#[]⟩] 92)).alloc (.cells #[.int .i64 ((x0 : Int)), .int .i64 (999999 - (x4 : Int)), .int .i64 ((x2 : Int)), .string ⟨#[]⟩] 92)).alloc mobj = w2 at *
    clear hw2
    generalize hxa : (x0 : Int) = xa at *
    generalize hxb : 999999 - (x4 : Int) = xb at *
    generalize hxc : (x2 : Int) = xc at *
    clear hxa hxb hxc e0 l0 e1 l1 r1 e2 l2 e3 l3 r2 e4 l4 e5 l5 r3 e6 l6 e7 l7 r4 e8 l8 r5
    refine (within_nat _ _ _ (by omega) (by omega) (by omega) (by omega)).mono ?_
    rintro e w3 ⟨j0, rfl, hj0, -, rfl⟩
    go_wp2_with fail
    go_loopw [8, 9] (fun j i wr => ∃ J k : Nat, ∃ p : ByteArray, J < 1099511627776 ∧ k ≤ 3 ∧ j = .int .i64 J ∧ i = .int .i64 k ∧ G k p ∧ VarAt wr w.heap.size V.zero ∧ VarAt wr (w.heap.size + 1) ⟨xa, xb, xc, p⟩ ∧ MRow wr (w.heap.size + 1 + 1) ∧ Below w.heap.size w wr) (fun _ i _ => 4 - (RowKit.intOf i).toNat)
    case atStart => exact ⟨j0, 0, ⟨#[]⟩, by omega, by omega, rfl, rfl, ⟨by decide, fun _ => rfl, fun h => absurd rfl h⟩, V0, V1, MR, ba3⟩
    case round =>
      obtain ⟨J, k, p, hJ, hk, rfl, rfl, hG, VZ, VM, MW, hB⟩ := hrel
      clear V0 V1 MR ba3
      have HG := hide hG
      have hps : p.size ≤ 28 * k := hG.1
      clear hG
      have HVZ := hide VZ
      have HVM := hide VM
      have HMW := hide MW
      have HB := hide hB
      clear VZ VM MW hB
      obtain ⟨r, f0, g0⟩ := remN J 4 (by omega)
      by_cases hlt : k < r
      · obtain ⟨J4, f1, g1, s1⟩ := quoN J 4 (by omega) hJ
        obtain ⟨x, f2, g2⟩ := remN J4 13 (by omega)
        obtain ⟨J13, f3, g3, s3⟩ := quoN J 13 (by omega) hJ
        have hx : x < 13 := by omega
        have cx := HMW.out.2 x hx
        obtain ⟨t1, t2, t3⟩ := m_words x hx
        have T1 := hide t1
        have T2 := hide t2
        clear t1 t2
        generalize hy : mt.getD x ⟨#[]⟩ = y at *
        have HY := hide hy
        clear hy
        have i1 : (0 : Int) ≤ (x : Int) := by omega
        have i2 : (x : Int) < 13 := by omega
        have dl : decide ((k : Int) < (r : Int)) = true := by simp; omega
        obtain ⟨lt, c0, c1, c2, c3, v0, v1, v2, v3⟩ := HVM.out
        by_cases hk0 : k = 0
        · subst hk0
          have n1 : ¬ 9223372036854775807 < p.size + y.size := by omega
          have dk : decide ((0 : Int) < ((0 : Nat) : Int)) = false := by simp
          have NG := hide (HG.out.first T1.out T2.out t3)
          go_wp2_with fail
          go_region
          go_wp2_with fail
          go_roundw
          case rel => exact ⟨J13, 1, p ++ y, g3, by omega, by go_num, by go_num, NG.out, (HVZ.out.far3 _ (by omega)).drew, (HVM.out.set3 _).drew, (HMW.out.set _ (by omega)).drew, (HB.out.setCell (by simp) _).drew⟩
          case measure => simp [RowKit.intOf]
        · have n1 : ¬ 9223372036854775807 < p.size + 1 := by omega
          generalize hK : (k : Int) = K at *
          have dk : decide (0 < K) = true := by simp; omega
          have wK : IntKind.i64.wrap (K + 1) = K + 1 := by rw [IntKind.wrap_i64]; omega
          have HK := hide hK
          clear hK
          have NG := hide (HG.out.more hk0 T1.out T2.out t3)
          have HK0 := hide hk0
          have HPS := hide hps
          have HT3 := hide t3
          clear hk0 hps t3
          go_wp2_with fail
          have hps := HPS.out
          have t3 := HT3.out
          have V3 := hide (HVM.out.set3 (p ++ ⟨#[46]⟩))
          have Z3 := hide (HVZ.out.far3 (N := w.heap.size + 1) (o := 3) (.string (p ++ ⟨#[46]⟩)) (by omega))
          have M3 := hide (HMW.out.set (M := w.heap.size + 1) (o := 3) (.string (p ++ ⟨#[46]⟩)) (by omega))
          have B3 := hide (HB.out.setCell (p := ⟨w.heap.size + 1, 3, none⟩) (by simp) (.string (p ++ ⟨#[46]⟩)))
          have n2 : ¬ 9223372036854775807 < (p ++ ⟨#[46]⟩).size + y.size := by rw [ByteArray.size_append]; have : (ByteArray.mk #[46]).size = 1 := rfl; omega
          clear lt c0 c1 c2 c3 v0 v1 v2 v3 cx n1
          have cx := M3.out.2 x hx
          rw [HY.out] at cx
          obtain ⟨lt, c0, c1, c2, c3, v0, v1, v2, v3⟩ := V3.out
          generalize p ++ ⟨#[46]⟩ = p1 at *
          generalize wr.setCell ⟨w.heap.size + 1, 3, none⟩ (.string p1) = w4 at *
          go_region
          go_wp2_with fail
          go_roundw
          case rel => exact ⟨J13, k + 1, p1 ++ y, g3, by omega, by go_num, by rw [← HK.out]; simp, NG.out, (Z3.out.far3 _ (by omega)).drew, (V3.out.set3 _).drew, (M3.out.set _ (by omega)).drew, (B3.out.setCell (by simp) _).drew⟩
          case measure => have := HK.out; simp [RowKit.intOf]; omega
      · have dl : decide ((k : Int) < (r : Int)) = false := by simp; omega
        obtain ⟨lt, c0, c1, c2, c3, v0, v1, v2, v3⟩ := HVM.out
        obtain ⟨zt, z0, z1, z2, z3, y0, y1, y2, y3⟩ := HVZ.out
        by_cases hs : p.size ≤ 40
        · have ds : decide ((40 : Int) < (p.size : Int)) = false := by simp; omega
          have OK := hide (made_ok pa pb pc (HG.out.ok hs))
          go_wp2_with fail
          exact bodyPost_ret (v := val ⟨xa, xb, xc, p⟩) (by simp [results, Tryz.results47, go_sem, z0, z1, z2, z3]) rfl ⟨_, rfl, OK.out, (((HB.out.setCell (by simp) _).setCell (by simp) _).setCell (by simp) _).setCell (by simp) _⟩
        · have ds : decide ((40 : Int) < (p.size : Int)) = true := by simp; omega
          have OK := hide (made_ok (q := ⟨#[114, 99, 46, 49]⟩) pa pb pc (by decide +kernel))
          go_wp2_with fail
          exact bodyPost_ret (v := val ⟨xa, xb, xc, ⟨#[114, 99, 46, 49]⟩⟩) (by simp [results, Tryz.results47, go_sem, z0, z1, z2, z3]) rfl ⟨_, rfl, OK.out, ((((HB.out.setCell (by simp) _).setCell (by simp) _).setCell (by simp) _).setCell (by simp) _).setCell (by simp) _⟩
  have t1 : ((x3 : Int) == 1) = false := by simp; omega
  by_cases c2 : x3 = 2
  · have t2 : ((x3 : Int) == 2) = true := by simp; omega
    go_wp2_with fail
    have ba1 : Below w.heap.size w (w.alloc (.cells #[.int .i64 0, .int .i64 0, .int .i64 0, .string ⟨#[]⟩] 92)) := (Below.refl _ _).alloc (Nat.le_refl _) _
    have ba2 := ba1.alloc ba1.size (.cells #[.int .i64 ((x0 : Int)), .int .i64 ((x1 : Int)), .int .i64 (999999 - (x4 : Int)), .string ⟨#[]⟩] 92)
    have ba3 := ba2.alloc ba2.size mobj
    have V00 : VarAt (w.alloc (.cells #[.int .i64 0, .int .i64 0, .int .i64 0, .string ⟨#[]⟩] 92)) w.heap.size V.zero := VarAt.new w V.zero
    have V0 := ((V00.later ((Below.refl _ _).alloc (Nat.le_refl _) (.cells #[.int .i64 ((x0 : Int)), .int .i64 ((x1 : Int)), .int .i64 (999999 - (x4 : Int)), .string ⟨#[]⟩] 92))).later ((Below.refl _ _).alloc (Nat.le_refl _) mobj))
    have V1 := ((VarAt.new (w.alloc (.cells #[.int .i64 0, .int .i64 0, .int .i64 0, .string ⟨#[]⟩] 92)) ⟨(x0 : Int), (x1 : Int), 999999 - (x4 : Int), ⟨#[]⟩⟩).later ((Below.refl _ _).alloc (Nat.le_refl _) mobj))
    have MR := m_row ((w.alloc (.cells #[.int .i64 0, .int .i64 0, .int .i64 0, .string ⟨#[]⟩] 92)).alloc (.cells #[.int .i64 ((x0 : Int)), .int .i64 ((x1 : Int)), .int .i64 (999999 - (x4 : Int)), .string ⟨#[]⟩] 92))
    have z1 : (w.alloc (.cells #[.int .i64 0, .int .i64 0, .int .i64 0, .string ⟨#[]⟩] 92)).heap.size = w.heap.size + 1 := by simp
    have z2 : ((w.alloc (.cells #[.int .i64 0, .int .i64 0, .int .i64 0, .string ⟨#[]⟩] 92)).alloc (.cells #[.int .i64 ((x0 : Int)), .int .i64 ((x1 : Int)), .int .i64 (999999 - (x4 : Int)), .string ⟨#[]⟩] 92)).heap.size = w.heap.size + 1 + 1 := by simp
    rw [z1] at V1
    rw [z2] at MR
    clear z1 z2 ba1 ba2 V00
    have pa : (0 : Int) ≤ (x0 : Int) ∧ (x0 : Int) ≤ 999999 := by omega
    have pb : (0 : Int) ≤ (x1 : Int) ∧ (x1 : Int) ≤ 999999 := by omega
    have pc : (0 : Int) ≤ 999999 - (x4 : Int) ∧ 999999 - (x4 : Int) ≤ 999999 := by omega
    generalize hw2 : ((w.alloc (.cells #[.int .i64 0, .int .i64 0, .int .i64 0, .string ⟨#[]⟩] 92)).alloc (.cells #[.int .i64 ((x0 : Int)), .int .i64 ((x1 : Int)), .int .i64 (999999 - (x4 : Int)), .string ⟨#[]⟩] 92)).alloc mobj = w2 at *
    clear hw2
    generalize hxa : (x0 : Int) = xa at *
    generalize hxb : (x1 : Int) = xb at *
    generalize hxc : 999999 - (x4 : Int) = xc at *
    clear hxa hxb hxc e0 l0 e1 l1 r1 e2 l2 e3 l3 r2 e4 l4 e5 l5 r3 e6 l6 e7 l7 r4 e8 l8 r5
    refine (within_nat _ _ _ (by omega) (by omega) (by omega) (by omega)).mono ?_
    rintro e w3 ⟨j0, rfl, hj0, -, rfl⟩
    go_wp2_with fail
    go_loopw [8, 9] (fun j i wr => ∃ J k : Nat, ∃ p : ByteArray, J < 1099511627776 ∧ k ≤ 3 ∧ j = .int .i64 J ∧ i = .int .i64 k ∧ G k p ∧ VarAt wr w.heap.size V.zero ∧ VarAt wr (w.heap.size + 1) ⟨xa, xb, xc, p⟩ ∧ MRow wr (w.heap.size + 1 + 1) ∧ Below w.heap.size w wr) (fun _ i _ => 4 - (RowKit.intOf i).toNat)
    case atStart => exact ⟨j0, 0, ⟨#[]⟩, by omega, by omega, rfl, rfl, ⟨by decide, fun _ => rfl, fun h => absurd rfl h⟩, V0, V1, MR, ba3⟩
    case round =>
      obtain ⟨J, k, p, hJ, hk, rfl, rfl, hG, VZ, VM, MW, hB⟩ := hrel
      clear V0 V1 MR ba3
      have HG := hide hG
      have hps : p.size ≤ 28 * k := hG.1
      clear hG
      have HVZ := hide VZ
      have HVM := hide VM
      have HMW := hide MW
      have HB := hide hB
      clear VZ VM MW hB
      obtain ⟨r, f0, g0⟩ := remN J 4 (by omega)
      by_cases hlt : k < r
      · obtain ⟨J4, f1, g1, s1⟩ := quoN J 4 (by omega) hJ
        obtain ⟨x, f2, g2⟩ := remN J4 13 (by omega)
        obtain ⟨J13, f3, g3, s3⟩ := quoN J 13 (by omega) hJ
        have hx : x < 13 := by omega
        have cx := HMW.out.2 x hx
        obtain ⟨t1, t2, t3⟩ := m_words x hx
        have T1 := hide t1
        have T2 := hide t2
        clear t1 t2
        generalize hy : mt.getD x ⟨#[]⟩ = y at *
        have HY := hide hy
        clear hy
        have i1 : (0 : Int) ≤ (x : Int) := by omega
        have i2 : (x : Int) < 13 := by omega
        have dl : decide ((k : Int) < (r : Int)) = true := by simp; omega
        obtain ⟨lt, c0, c1, c2, c3, v0, v1, v2, v3⟩ := HVM.out
        by_cases hk0 : k = 0
        · subst hk0
          have n1 : ¬ 9223372036854775807 < p.size + y.size := by omega
          have dk : decide ((0 : Int) < ((0 : Nat) : Int)) = false := by simp
          have NG := hide (HG.out.first T1.out T2.out t3)
          go_wp2_with fail
          go_region
          go_wp2_with fail
          go_roundw
          case rel => exact ⟨J13, 1, p ++ y, g3, by omega, by go_num, by go_num, NG.out, (HVZ.out.far3 _ (by omega)).drew, (HVM.out.set3 _).drew, (HMW.out.set _ (by omega)).drew, (HB.out.setCell (by simp) _).drew⟩
          case measure => simp [RowKit.intOf]
        · have n1 : ¬ 9223372036854775807 < p.size + 1 := by omega
          generalize hK : (k : Int) = K at *
          have dk : decide (0 < K) = true := by simp; omega
          have wK : IntKind.i64.wrap (K + 1) = K + 1 := by rw [IntKind.wrap_i64]; omega
          have HK := hide hK
          clear hK
          have NG := hide (HG.out.more hk0 T1.out T2.out t3)
          have HK0 := hide hk0
          have HPS := hide hps
          have HT3 := hide t3
          clear hk0 hps t3
          go_wp2_with fail
          have hps := HPS.out
          have t3 := HT3.out
          have V3 := hide (HVM.out.set3 (p ++ ⟨#[46]⟩))
          have Z3 := hide (HVZ.out.far3 (N := w.heap.size + 1) (o := 3) (.string (p ++ ⟨#[46]⟩)) (by omega))
          have M3 := hide (HMW.out.set (M := w.heap.size + 1) (o := 3) (.string (p ++ ⟨#[46]⟩)) (by omega))
          have B3 := hide (HB.out.setCell (p := ⟨w.heap.size + 1, 3, none⟩) (by simp) (.string (p ++ ⟨#[46]⟩)))
          have n2 : ¬ 9223372036854775807 < (p ++ ⟨#[46]⟩).size + y.size := by rw [ByteArray.size_append]; have : (ByteArray.mk #[46]).size = 1 := rfl; omega
          clear lt c0 c1 c2 c3 v0 v1 v2 v3 cx n1
          have cx := M3.out.2 x hx
          rw [HY.out] at cx
          obtain ⟨lt, c0, c1, c2, c3, v0, v1, v2, v3⟩ := V3.out
          generalize p ++ ⟨#[46]⟩ = p1 at *
          generalize wr.setCell ⟨w.heap.size + 1, 3, none⟩ (.string p1) = w4 at *
          go_region
          go_wp2_with fail
          go_roundw
          case rel => exact ⟨J13, k + 1, p1 ++ y, g3, by omega, by go_num, by rw [← HK.out]; simp, NG.out, (Z3.out.far3 _ (by omega)).drew, (V3.out.set3 _).drew, (M3.out.set _ (by omega)).drew, (B3.out.setCell (by simp) _).drew⟩
          case measure => have := HK.out; simp [RowKit.intOf]; omega
      · have dl : decide ((k : Int) < (r : Int)) = false := by simp; omega
        obtain ⟨lt, c0, c1, c2, c3, v0, v1, v2, v3⟩ := HVM.out
        obtain ⟨zt, z0, z1, z2, z3, y0, y1, y2, y3⟩ := HVZ.out
        by_cases hs : p.size ≤ 40
        · have ds : decide ((40 : Int) < (p.size : Int)) = false := by simp; omega
          have OK := hide (made_ok pa pb pc (HG.out.ok hs))
          go_wp2_with fail
          exact bodyPost_ret (v := val ⟨xa, xb, xc, p⟩) (by simp [results, Tryz.results47, go_sem, z0, z1, z2, z3]) rfl ⟨_, rfl, OK.out, (((HB.out.setCell (by simp) _).setCell (by simp) _).setCell (by simp) _).setCell (by simp) _⟩
        · have ds : decide ((40 : Int) < (p.size : Int)) = true := by simp; omega
          have OK := hide (made_ok (q := ⟨#[114, 99, 46, 49]⟩) pa pb pc (by decide +kernel))
          go_wp2_with fail
          exact bodyPost_ret (v := val ⟨xa, xb, xc, ⟨#[114, 99, 46, 49]⟩⟩) (by simp [results, Tryz.results47, go_sem, z0, z1, z2, z3]) rfl ⟨_, rfl, OK.out, ((((HB.out.setCell (by simp) _).setCell (by simp) _).setCell (by simp) _).setCell (by simp) _).setCell (by simp) _⟩
  · have t2 : ((x3 : Int) == 2) = false := by simp; omega
    go_wp2_with fail
    have ba1 : Below w.heap.size w (w.alloc (.cells #[.int .i64 0, .int .i64 0, .int .i64 0, .string ⟨#[]⟩] 92)) := (Below.refl _ _).alloc (Nat.le_refl _) _
    have ba2 := ba1.alloc ba1.size (.cells #[.int .i64 ((x0 : Int)), .int .i64 ((x1 : Int)), .int .i64 ((x2 : Int)), .string ⟨#[]⟩] 92)
    have ba3 := ba2.alloc ba2.size mobj
    have V00 : VarAt (w.alloc (.cells #[.int .i64 0, .int .i64 0, .int .i64 0, .string ⟨#[]⟩] 92)) w.heap.size V.zero := VarAt.new w V.zero
    have V0 := ((V00.later ((Below.refl _ _).alloc (Nat.le_refl _) (.cells #[.int .i64 ((x0 : Int)), .int .i64 ((x1 : Int)), .int .i64 ((x2 : Int)), .string ⟨#[]⟩] 92))).later ((Below.refl _ _).alloc (Nat.le_refl _) mobj))
    have V1 := ((VarAt.new (w.alloc (.cells #[.int .i64 0, .int .i64 0, .int .i64 0, .string ⟨#[]⟩] 92)) ⟨(x0 : Int), (x1 : Int), (x2 : Int), ⟨#[]⟩⟩).later ((Below.refl _ _).alloc (Nat.le_refl _) mobj))
    have MR := m_row ((w.alloc (.cells #[.int .i64 0, .int .i64 0, .int .i64 0, .string ⟨#[]⟩] 92)).alloc (.cells #[.int .i64 ((x0 : Int)), .int .i64 ((x1 : Int)), .int .i64 ((x2 : Int)), .string ⟨#[]⟩] 92))
    have z1 : (w.alloc (.cells #[.int .i64 0, .int .i64 0, .int .i64 0, .string ⟨#[]⟩] 92)).heap.size = w.heap.size + 1 := by simp
    have z2 : ((w.alloc (.cells #[.int .i64 0, .int .i64 0, .int .i64 0, .string ⟨#[]⟩] 92)).alloc (.cells #[.int .i64 ((x0 : Int)), .int .i64 ((x1 : Int)), .int .i64 ((x2 : Int)), .string ⟨#[]⟩] 92)).heap.size = w.heap.size + 1 + 1 := by simp
    rw [z1] at V1
    rw [z2] at MR
    clear z1 z2 ba1 ba2 V00
    have pa : (0 : Int) ≤ (x0 : Int) ∧ (x0 : Int) ≤ 999999 := by omega
    have pb : (0 : Int) ≤ (x1 : Int) ∧ (x1 : Int) ≤ 999999 := by omega
    have pc : (0 : Int) ≤ (x2 : Int) ∧ (x2 : Int) ≤ 999999 := by omega
    generalize hw2 : ((w.alloc (.cells #[.int .i64 0, .int .i64 0, .int .i64 0, .string ⟨#[]⟩] 92)).alloc (.cells #[.int .i64 ((x0 : Int)), .int .i64 ((x1 : Int)), .int .i64 ((x2 : Int)), .string ⟨#[]⟩] 92)).alloc mobj = w2 at *
    clear hw2
    generalize hxa : (x0 : Int) = xa at *
    generalize hxb : (x1 : Int) = xb at *
    generalize hxc : (x2 : Int) = xc at *
    clear hxa hxb hxc e0 l0 e1 l1 r1 e2 l2 e3 l3 r2 e4 l4 e5 l5 r3 e6 l6 e7 l7 r4 e8 l8 r5
    refine (within_nat _ _ _ (by omega) (by omega) (by omega) (by omega)).mono ?_
    rintro e w3 ⟨j0, rfl, hj0, -, rfl⟩
    go_wp2_with fail
    go_loopw [8, 9] (fun j i wr => ∃ J k : Nat, ∃ p : ByteArray, J < 1099511627776 ∧ k ≤ 3 ∧ j = .int .i64 J ∧ i = .int .i64 k ∧ G k p ∧ VarAt wr w.heap.size V.zero ∧ VarAt wr (w.heap.size + 1) ⟨xa, xb, xc, p⟩ ∧ MRow wr (w.heap.size + 1 + 1) ∧ Below w.heap.size w wr) (fun _ i _ => 4 - (RowKit.intOf i).toNat)
    case atStart => exact ⟨j0, 0, ⟨#[]⟩, by omega, by omega, rfl, rfl, ⟨by decide, fun _ => rfl, fun h => absurd rfl h⟩, V0, V1, MR, ba3⟩
    case round =>
      obtain ⟨J, k, p, hJ, hk, rfl, rfl, hG, VZ, VM, MW, hB⟩ := hrel
      clear V0 V1 MR ba3
      have HG := hide hG
      have hps : p.size ≤ 28 * k := hG.1
      clear hG
      have HVZ := hide VZ
      have HVM := hide VM
      have HMW := hide MW
      have HB := hide hB
      clear VZ VM MW hB
      obtain ⟨r, f0, g0⟩ := remN J 4 (by omega)
      by_cases hlt : k < r
      · obtain ⟨J4, f1, g1, s1⟩ := quoN J 4 (by omega) hJ
        obtain ⟨x, f2, g2⟩ := remN J4 13 (by omega)
        obtain ⟨J13, f3, g3, s3⟩ := quoN J 13 (by omega) hJ
        have hx : x < 13 := by omega
        have cx := HMW.out.2 x hx
        obtain ⟨t1, t2, t3⟩ := m_words x hx
        have T1 := hide t1
        have T2 := hide t2
        clear t1 t2
        generalize hy : mt.getD x ⟨#[]⟩ = y at *
        have HY := hide hy
        clear hy
        have i1 : (0 : Int) ≤ (x : Int) := by omega
        have i2 : (x : Int) < 13 := by omega
        have dl : decide ((k : Int) < (r : Int)) = true := by simp; omega
        obtain ⟨lt, c0, c1, c2, c3, v0, v1, v2, v3⟩ := HVM.out
        by_cases hk0 : k = 0
        · subst hk0
          have n1 : ¬ 9223372036854775807 < p.size + y.size := by omega
          have dk : decide ((0 : Int) < ((0 : Nat) : Int)) = false := by simp
          have NG := hide (HG.out.first T1.out T2.out t3)
          go_wp2_with fail
          go_region
          go_wp2_with fail
          go_roundw
          case rel => exact ⟨J13, 1, p ++ y, g3, by omega, by go_num, by go_num, NG.out, (HVZ.out.far3 _ (by omega)).drew, (HVM.out.set3 _).drew, (HMW.out.set _ (by omega)).drew, (HB.out.setCell (by simp) _).drew⟩
          case measure => simp [RowKit.intOf]
        · have n1 : ¬ 9223372036854775807 < p.size + 1 := by omega
          generalize hK : (k : Int) = K at *
          have dk : decide (0 < K) = true := by simp; omega
          have wK : IntKind.i64.wrap (K + 1) = K + 1 := by rw [IntKind.wrap_i64]; omega
          have HK := hide hK
          clear hK
          have NG := hide (HG.out.more hk0 T1.out T2.out t3)
          have HK0 := hide hk0
          have HPS := hide hps
          have HT3 := hide t3
          clear hk0 hps t3
          go_wp2_with fail
          have hps := HPS.out
          have t3 := HT3.out
          have V3 := hide (HVM.out.set3 (p ++ ⟨#[46]⟩))
          have Z3 := hide (HVZ.out.far3 (N := w.heap.size + 1) (o := 3) (.string (p ++ ⟨#[46]⟩)) (by omega))
          have M3 := hide (HMW.out.set (M := w.heap.size + 1) (o := 3) (.string (p ++ ⟨#[46]⟩)) (by omega))
          have B3 := hide (HB.out.setCell (p := ⟨w.heap.size + 1, 3, none⟩) (by simp) (.string (p ++ ⟨#[46]⟩)))
          have n2 : ¬ 9223372036854775807 < (p ++ ⟨#[46]⟩).size + y.size := by rw [ByteArray.size_append]; have : (ByteArray.mk #[46]).size = 1 := rfl; omega
          clear lt c0 c1 c2 c3 v0 v1 v2 v3 cx n1
          have cx := M3.out.2 x hx
          rw [HY.out] at cx
          obtain ⟨lt, c0, c1, c2, c3, v0, v1, v2, v3⟩ := V3.out
          generalize p ++ ⟨#[46]⟩ = p1 at *
          generalize wr.setCell ⟨w.heap.size + 1, 3, none⟩ (.string p1) = w4 at *
          go_region
          go_wp2_with fail
          go_roundw
          case rel => exact ⟨J13, k + 1, p1 ++ y, g3, by omega, by go_num, by rw [← HK.out]; simp, NG.out, (Z3.out.far3 _ (by omega)).drew, (V3.out.set3 _).drew, (M3.out.set _ (by omega)).drew, (B3.out.setCell (by simp) _).drew⟩
          case measure => have := HK.out; simp [RowKit.intOf]; omega
      · have dl : decide ((k : Int) < (r : Int)) = false := by simp; omega
        obtain ⟨lt, c0, c1, c2, c3, v0, v1, v2, v3⟩ := HVM.out
        obtain ⟨zt, z0, z1, z2, z3, y0, y1, y2, y3⟩ := HVZ.out
        by_cases hs : p.size ≤ 40
        · have ds : decide ((40 : Int) < (p.size : Int)) = false := by simp; omega
          have OK := hide (made_ok pa pb pc (HG.out.ok hs))
          go_wp2_with fail
          exact bodyPost_ret (v := val ⟨xa, xb, xc, p⟩) (by simp [results, Tryz.results47, go_sem, z0, z1, z2, z3]) rfl ⟨_, rfl, OK.out, (((HB.out.setCell (by simp) _).setCell (by simp) _).setCell (by simp) _).setCell (by simp) _⟩
        · have ds : decide ((40 : Int) < (p.size : Int)) = true := by simp; omega
          have OK := hide (made_ok (q := ⟨#[114, 99, 46, 49]⟩) pa pb pc (by decide +kernel))
          go_wp2_with fail
          exact bodyPost_ret (v := val ⟨xa, xb, xc, ⟨#[114, 99, 46, 49]⟩⟩) (by simp [results, Tryz.results47, go_sem, z0, z1, z2, z3]) rfl ⟨_, rfl, OK.out, ((((HB.out.setCell (by simp) _).setCell (by simp) _).setCell (by simp) _).setCell (by simp) _).setCell (by simp) _⟩

end Go.Proofs.YtnmmhihfnphjeaaGreatDoor
