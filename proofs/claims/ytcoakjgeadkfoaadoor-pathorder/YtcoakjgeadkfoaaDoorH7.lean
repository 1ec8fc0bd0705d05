/-
  Contracts of path's better, Find.
-/
import Derived.Test.YtcoakjgeadkfoaaDoorH5
namespace Go.Proofs.YtcoakjgeadkfoaaDoor
set_option linter.unusedSimpArgs false
set_option linter.unusedVariables false
open Go.RowKit Go.Vr Go.Sort Go.Tx Go.Pa Go.Lib
attribute [local go_sem] setCellDrewN allocDrewN

theorem less_is : ∀ l k : List UInt8, decide (compareBytes l k < 0) = Op.bytesLess l k
  | [], [] => rfl
  | [], _ :: _ => rfl
  | _ :: _, [] => rfl
  | a :: x, b :: y => by
    have ih := less_is x y
    unfold compareBytes Op.bytesLess
    by_cases h : a < b
    · simp [h]
    · by_cases h2 : b < a
      · have h3 : ¬ a = b := fun e => by subst e; exact h h2
        simp [h, h2, h3]
      · have h3 : a = b := UInt8.toNat_inj.1 (by rw [UInt8.lt_iff_toNat_lt] at h h2; omega)
        subst h3
        simp [h, ih]

/-- A module as a value. -/
abbrev mod3 (x : ByteArray) (n : Int) (p : ByteArray) : Value := .agg #[.string x, .int .i64 n, .string p]

set_option maxHeartbeats 2000000 in
set_option maxRecDepth 100000 in
theorem better_any (x y p q : ByteArray) (n m : Int) (w : World) :
    Calls Tryd.prog 19 #[mod3 x n p, mod3 y m q] w fun e w' => e = .returned (.bool (if x.size = y.size then decide (compareBytes p.data.toList q.data.toList < 0) else decide (y.size < x.size))) ∧ Below w.heap.size w w' := by
  have hB : Below w.heap.size w ((w.alloc (.cells #[.string x, .int .i64 n, .string p] 42)).alloc (.cells #[.string y, .int .i64 m, .string q] 42)) := (by repeat (first | with_reducible assumption | with_reducible exact Below.refl _ _ | with_reducible refine Below.setCell ?_ (by first | exact Nat.le_refl _ | (simp; done) | (simp; omega)) _ | with_reducible refine bal ?_ _ | with_reducible refine Below.alloc ?_ (by first | exact Nat.le_refl _ | (simp; done) | (simp; omega)) _ | with_reducible refine Below.drew ?_))
  by_cases h : x.size = y.size
  · have d1 : ((x.size : Int) != (y.size : Int)) = false := by simp; omega
    have HL := hide (less_is p.data.toList q.data.toList)
    rw [if_pos h]
    clear h
    go_enter Tryd.func19, Tryd.ntmps19
    go_wp2_with fail
    go_ret
    exact ⟨ret_bool (by rw [HL.out, toList_data, toList_data]), hB⟩
  · have d1 : ((x.size : Int) != (y.size : Int)) = true := by simp; omega
    rw [if_neg h]
    clear h
    go_enter Tryd.func19, Tryd.ntmps19
    go_wp2_with fail
    go_ret
    exact ⟨by simp, hB⟩
theorem better_val (p q : Bs) : (if (str (maj p).1).size = (str (maj q).1).size then decide (compareBytes (str p).data.toList (str q).data.toList < 0) else decide ((str (maj q).1).size < (str (maj p).1).size)) = better p q := by
  rw [str_size, str_size, str_list, str_list]
  by_cases h : (maj p).1.length = (maj q).1.length
  · rw [if_pos h, better_same h]
  · rw [if_neg h, better_else h]

/-- A module's variable. -/
structure ModAt (w : World) (N : Nat) (x : ByteArray) (n : Int) (p : ByteArray) : Prop where
  lt : N < w.heap.size
  c0 : w.cell? ⟨N, 0, none⟩ = some (.string x)
  c1 : w.cell? ⟨N, 1, none⟩ = some (.int .i64 n)
  c2 : w.cell? ⟨N, 2, none⟩ = some (.string p)
  f0 : w.frozen? ⟨N, 0, none⟩ = false
  f1 : w.frozen? ⟨N, 1, none⟩ = false
  f2 : w.frozen? ⟨N, 2, none⟩ = false
theorem ModAt.new (w : World) (x : ByteArray) (n : Int) (p : ByteArray) : ModAt (w.alloc (.cells #[.string x, .int .i64 n, .string p] 42)) w.heap.size x n p := ⟨by simp, by simp [go_sem], by simp [go_sem], by simp [go_sem], by simp [go_sem], by simp [go_sem], by simp [go_sem]⟩
theorem ModAt.later {w w' : World} {N : Nat} {x : ByteArray} {n : Int} {p : ByteArray} (h : ModAt w N x n p) (b : Below w.heap.size w w') : ModAt w' N x n p :=
  ⟨Nat.lt_of_lt_of_le h.lt b.size, cellLater b h.c0, cellLater b h.c1, cellLater b h.c2, (b.frozen (p := ⟨N, 0, none⟩) h.lt).trans h.f0, (b.frozen (p := ⟨N, 1, none⟩) h.lt).trans h.f1, (b.frozen (p := ⟨N, 2, none⟩) h.lt).trans h.f2⟩
/-- Stored anew. -/
def putM (w : World) (N : Nat) (x : ByteArray) (n : Int) (p : ByteArray) : World := ((w.setCell ⟨N, 0, none⟩ (.string x)).setCell ⟨N, 1, none⟩ (.int .i64 n)).setCell ⟨N, 2, none⟩ (.string p)
theorem ModAt.put {w : World} {N : Nat} {x : ByteArray} {n : Int} {p : ByteArray} (h : ModAt w N x n p) (y : ByteArray) (m : Int) (q : ByteArray) : ModAt (putM w N y m q) N y m q := by
  obtain ⟨lt, c0, c1, c2, f0, f1, f2⟩ := h
  unfold putM
  exact ⟨by simpa [World.setCell] using lt, by simp [go_sem, c0, c1, c2], by simp [go_sem, c0, c1, c2], by simp [go_sem, c0, c1, c2], by simp [go_sem, f0], by simp [go_sem, f1], by simp [go_sem, f2]⟩
theorem VarAt.farM {w : World} {N M : Nat} {u : V} (h : VarAt w M u) (y : ByteArray) (m : Int) (q : ByteArray) (hne : N ≠ M) : VarAt (putM w N y m q) M u := by
  obtain ⟨lt, c0, c1, c2, c3, f0, f1, f2, f3⟩ := h
  unfold putM
  exact ⟨by simpa [World.setCell] using lt, by simp [go_sem, c0, hne], by simp [go_sem, c1, hne], by simp [go_sem, c2, hne], by simp [go_sem, c3, hne], by simp [go_sem, f0], by simp [go_sem, f1], by simp [go_sem, f2], by simp [go_sem, f3]⟩
theorem putM_below {B : Nat} {w w' : World} {N : Nat} (h : Below B w w') (hB : B ≤ N) (y : ByteArray) (m : Int) (q : ByteArray) : Below B w (putM w' N y m q) :=
  ((h.setCell hB _).setCell hB _).setCell hB _

def bx : Option Bs → ByteArray | none => ⟨#[]⟩ | some q => str (maj q).1
def bn : Option Bs → Int | none => 0 | some q => (maj q).2
def bp : Option Bs → ByteArray | none => ⟨#[]⟩ | some q => str q
/-- What Find answers. -/
def fval (o : Option Bs) : Value := .tuple #[.string (bp o), .bool o.isSome]
theorem take_getD (ws : List Bs) (k : Nat) (h : k < ws.length) : ws.take (k + 1) = ws.take k ++ [ws.getD k []] := by
  rw [List.take_add_one]
  simp [List.getD, List.getElem?_eq_getElem h]
theorem find_next {root : Bs} {a : Int} {ws : List Bs} {k : Nat} {x : Bs} {o : Option Bs} (h : o = find root a (ws.take k)) (e : ws.take (k + 1) = ws.take k ++ [x]) : pick root a o x = find root a (ws.take (k + 1)) := by
  rw [e, find_snoc, h]
theorem pick_not {root : Bs} {a : Int} {x : Bs} {o : Option Bs} (h : may root a x = false) : pick root a o x = o := by unfold pick; rw [if_neg (by simp [h])]
theorem pick_one {root : Bs} {a : Int} {x : Bs} (h : may root a x = true) : pick root a none x = some x := by unfold pick; rw [if_pos h]
theorem pick_two {root : Bs} {a : Int} {x q : Bs} (h : may root a x = true) (hb : better x q = true) : pick root a (some q) x = some x := by
  unfold pick; rw [if_pos h]; show (if better x q = true then some x else some q) = _; rw [if_pos hb]
theorem pick_old {root : Bs} {a : Int} {x q : Bs} (h : may root a x = true) (hb : better x q = false) : pick root a (some q) x = some q := by
  unfold pick; rw [if_pos h]; show (if better x q = true then some x else some q) = _; rw [if_neg (by simp [hb])]
theorem may_no1 {root : Bs} {a : Int} {x : Bs} (h : fits x a = false) : may root a x = false := by unfold may; rw [h]; rfl
theorem may_no2 {root : Bs} {a : Int} {x : Bs} (h : inside root (maj x).1 = false) : may root a x = false := by unfold may; rw [h]; simp
theorem may_yes {root : Bs} {a : Int} {x : Bs} (h : fits x a = true) (h2 : inside root (maj x).1 = true) : may root a x = true := by unfold may; rw [h, h2]; rfl

set_option maxHeartbeats 8000000 in
set_option maxRecDepth 100000 in
theorem pfind_any (ad : Option Addr) (n cap : Nat) (ss : List Bs) (r : ByteArray) (v : V) (w : World) (hr : SRow w ad n cap ss) (hn : n ≤ 1000) (hs : ∀ s ∈ ss, s.length ≤ 100) (he : Env w) :
    Calls Tryd.prog 9 #[.slice ad n cap, .string r, val v] w fun e w' => e = .returned (fval (find r.data.toList v.a ss)) ∧ Below w.heap.size w w' := by
  obtain ⟨a, b, c, pv⟩ := v
  have HR := hide hr
  have HE := hide he
  have HS := hide hs
  have hl := hr.n
  have hB0 : Below w.heap.size w (w.alloc (.cells #[.int .i64 a, .int .i64 b, .int .i64 c, .string pv] 28)) := (Below.refl _ _).alloc (Nat.le_refl _) _
  have hB1 : Below (w.alloc (.cells #[.int .i64 a, .int .i64 b, .int .i64 c, .string pv] 28)).heap.size (w.alloc (.cells #[.int .i64 a, .int .i64 b, .int .i64 c, .string pv] 28)) ((w.alloc (.cells #[.int .i64 a, .int .i64 b, .int .i64 c, .string pv] 28)).alloc (.cells #[.string ⟨#[]⟩, .int .i64 0, .string ⟨#[]⟩] 42)) := (Below.refl _ _).alloc (Nat.le_refl _) _
  have V0 := (VarAt.new w ⟨a, b, c, pv⟩).later hB1
  have M0 := ModAt.new (w.alloc (.cells #[.int .i64 a, .int .i64 b, .int .i64 c, .string pv] 28)) ⟨#[]⟩ 0 ⟨#[]⟩
  have hz : (w.alloc (.cells #[.int .i64 a, .int .i64 b, .int .i64 c, .string pv] 28)).heap.size = w.heap.size + 1 := by simp
  rw [hz] at M0
  have hB := hB0.trans (hB1.mono hB0.size)
  have HV0 := hide V0
  have HM0 := hide M0
  have HB0 := hide hB
  clear hr he hs hB0 hB1 V0 M0 hz hB
  show Calls Tryd.prog 9 #[.slice ad n cap, .string r, val ⟨a, b, c, pv⟩] w fun e w' => e = .returned (fval (find r.data.toList a ss)) ∧ Below w.heap.size w w'
  go_enter Tryd.func9, Tryd.ntmps9
  go_wp2_with fail
  generalize (w.alloc (.cells #[.int .i64 a, .int .i64 b, .int .i64 c, .string pv] 28)).alloc (.cells #[.string ⟨#[]⟩, .int .i64 0, .string ⟨#[]⟩] 42) = W0 at *
  go_loopw [9, 15] (fun fo i wr => ∃ (k : Nat) (o : Option Bs), k ≤ n ∧ i = .int .i64 k ∧ fo = .bool o.isSome ∧ Hid (o = find r.data.toList a (ss.take k)) ∧ Hid (VarAt wr w.heap.size ⟨a, b, c, pv⟩) ∧ Hid (ModAt wr (w.heap.size + 1) (bx o) (bn o) (bp o)) ∧ Hid (Below w.heap.size w wr)) (fun _ i _ => n - (RowKit.intOf i).toNat)
  case atStart => exact ⟨0, none, Nat.zero_le _, rfl, rfl, rfl, HV0, HM0, HB0⟩
  case round =>
    obtain ⟨k, o, hk, rfl, rfl, HO, HV, HM, HB⟩ := hrel
    clear HV0 HM0 HB0
    by_cases hlt : k < n
    · obtain ⟨rb, off, e, hcell⟩ := HR.out.at_ (by omega)
      subst e
      have hc := cellLater HB.out (hcell k hlt)
      have hmem : ss.getD k [] ∈ ss := by
        rw [List.getD_eq_getElem?_getD, List.getElem?_eq_getElem (by omega)]; exact List.getElem_mem _
      have hxl := HS.out _ hmem
      have HT := hide (take_getD ss k (by omega))
      clear hcell hmem
      generalize ss.getD k [] = x at *
      have hi1 : (0 : Int) ≤ (k : Int) := by omega
      have hi2 : (k : Int) < (n : Int) := by omega
      have dk : decide ((k : Int) < (n : Int)) = true := decide_eq_true hi2
      have hxs : (str x).size ≤ 5000 := by rw [str_size]; omega
      have CL := hide (lineOf_any (str x) wr hxs (HE.out.later HB.out))
      rw [str_list] at CL
      unfold lof at CL
      have CF := hide (fun W => lfits_any (str (maj x).1) (maj x).2 ⟨a, b, c, pv⟩ W)
      simp only [← fits_when] at CF
      have CC := hide (fun W => covers_any (str (maj x).1) (maj x).2 r W)
      simp only [str_list] at CC
      have CB := hide (fun q W => better_any (str (maj x).1) (str (maj q).1) (str x) (str q) (maj x).2 (maj q).2 W)
      simp only [better_val] at CB
      have hpn := hide (fun (h : may r.data.toList a x = false) => (pick_not (o := o) h).symm.trans (find_next HO.out HT.out))
      have hpy := hide (find_next HO.out HT.out)
      go_wp2_with fail
      refine CL.out.mono ?_
      rintro e w2 ⟨rfl, b2⟩
      have b3 : Below w2.heap.size w2 (w2.alloc (.cells #[.string (str (maj x).1), .int .i64 (maj x).2, .string (str x)] 42)) := (Below.refl _ _).alloc (Nat.le_refl _) _
      have hne : w.heap.size + 1 < w2.heap.size := by have := b2.size; have := HM.out.lt; omega
      have HX3 := hide (ModAt.new w2 (str (maj x).1) (maj x).2 (str x))
      have HV3 := hide ((HV.out.later b2).later b3)
      have HM3 := hide ((HM.out.later b2).later b3)
      have HB3 := hide (step (step HB.out b2) b3)
      clear b2 b3 CL hc HV HM HB
      have hbx : bx (some x) = str (maj x).1 := rfl
      have hbn : bn (some x) = (maj x).2 := rfl
      obtain ⟨vlt, v0, v1, v2, v3, -, -, -, -⟩ := HV3.out
      generalize str (maj x).1 = mx at *
      generalize (maj x).2 = mn at *
      cases hf : fits x a with
      | false =>
        have HN : Hid (o = find r.data.toList a (ss.take (k + 1))) := hpn.out (may_no1 hf)
        rw [hf] at CF
        clear hf hpn hpy CC CB HX3
        go_wp2_with fail
        refine (CF.out _).mono ?_
        rintro e w4 ⟨rfl, b4⟩
        go_wp2_with fail
        go_roundw
        case rel => exact ⟨k + 1, o, by omega, by go_num, rfl, HN, hide (HV3.out.later b4), hide (HM3.out.later b4), hide (step HB3.out b4)⟩
        case measure => simp [RowKit.intOf]; omega
      | true =>
        rw [hf] at CF
        go_wp2_with fail
        refine (CF.out _).mono ?_
        rintro e w4 ⟨rfl, b4⟩
        have HX4 := hide (HX3.out.later b4)
        have HV4 := hide (HV3.out.later b4)
        have HM4 := hide (HM3.out.later b4)
        have HB4 := hide (step HB3.out b4)
        clear b4 HX3 HV3 HM3 HB3 CF vlt v0 v1 v2 v3
        obtain ⟨xlt, x0, x1, x2, -, -, -⟩ := HX4.out
        generalize w2.heap.size = N2 at *
        cases hi : inside r.data.toList (maj x).1 with
        | false =>
          have HN : Hid (o = find r.data.toList a (ss.take (k + 1))) := hpn.out (may_no2 hi)
          rw [hi] at CC
          clear hf hi hpn hpy CB
          go_wp2_with fail
          refine (CC.out _).mono ?_
          rintro e w5 ⟨rfl, b5⟩
          go_wp2_with fail
          go_roundw
          case rel => exact ⟨k + 1, o, by omega, by go_num, rfl, HN, hide (HV4.out.later b5), hide (HM4.out.later b5), hide (step HB4.out b5)⟩
          case measure => simp [RowKit.intOf]; omega
        | true =>
          rw [hi] at CC
          have hmy := hide (may_yes hf hi)
          clear hf hi hpn
          go_wp2_with fail
          refine (CC.out _).mono ?_
          rintro e w5 ⟨rfl, b5⟩
          have HX5 := hide (HX4.out.later b5)
          have HV5 := hide (HV4.out.later b5)
          have HM5 := hide (HM4.out.later b5)
          have HB5 := hide (step HB4.out b5)
          clear b5 HX4 HV4 HM4 HB4 CC xlt x0 x1 x2
          obtain ⟨xlt, x0, x1, x2, -, -, -⟩ := HX5.out
          obtain ⟨mlt, m0, m1, m2, g0, g1, g2⟩ := HM5.out
          have hne2 : ¬ N2 = w.heap.size + 1 := by omega
          have hne3 : ¬ w.heap.size + 1 = N2 := by omega
          cases o with
          | none =>
            have HN : Hid (some x = find r.data.toList a (ss.take (k + 1))) := by show _ = _; rw [← hpy.out, pick_one hmy.out]
            have HV6 := HV5
            have HM6 := HM5
            have HB6 := HB5
            clear hpy hmy CB
            have HM9 := hide (HM6.out.put mx mn (str x))
            have HV9 := hide (HV6.out.farM (N := w.heap.size + 1) mx mn (str x) (by omega))
            have HB9 := hide (putM_below HB6.out (N := w.heap.size + 1) (by omega) mx mn (str x))
            unfold putM at HM9 HV9 HB9
            go_wp2_with fail
            go_roundw
            case rel => exact ⟨k + 1, some x, by omega, by go_num, rfl, HN, HV9, by rw [hbx, hbn] ; exact HM9, HB9⟩
            case measure => simp [RowKit.intOf]; omega
          | some q =>
            have CB := hide (CB.out q)
            simp only [bx, bn, bp] at m0 m1 m2
            cases hb : better x q with
            | false =>
              have HN : Hid (some q = find r.data.toList a (ss.take (k + 1))) := by show _ = _; rw [← hpy.out, pick_old hmy.out hb]
              rw [hb] at CB
              clear hb hpy hmy
              go_wp2_with fail
              refine (CB.out _).mono ?_
              rintro e w6 ⟨rfl, b6⟩
              go_wp2_with fail
              go_roundw
              case rel => exact ⟨k + 1, some q, by omega, by go_num, rfl, HN, hide (HV5.out.later b6), hide (HM5.out.later b6), hide (step HB5.out b6)⟩
              case measure => simp [RowKit.intOf]; omega
            | true =>
              have HN : Hid (some x = find r.data.toList a (ss.take (k + 1))) := by show _ = _; rw [← hpy.out, pick_two hmy.out hb]
              rw [hb] at CB
              clear hb hpy hmy
              go_wp2_with fail
              refine (CB.out _).mono ?_
              rintro e w6 ⟨rfl, b6⟩
              have HV6 := hide (HV5.out.later b6)
              have HM6 := hide (HM5.out.later b6)
              have HB6 := hide (step HB5.out b6)
              have HX6 := HX5.out.later b6
              clear xlt x0 x1 x2 mlt m0 m1 m2 g0 g1 g2 HX5
              obtain ⟨xlt, x0, x1, x2, -, -, -⟩ := HX6
              obtain ⟨mlt, m0, m1, m2, g0, g1, g2⟩ := HM6.out
              have HM9 := hide (HM6.out.put mx mn (str x))
              have HV9 := hide (HV6.out.farM (N := w.heap.size + 1) mx mn (str x) (by omega))
              have HB9 := hide (putM_below HB6.out (N := w.heap.size + 1) (by omega) mx mn (str x))
              unfold putM at HM9 HV9 HB9
              go_wp2_with fail
              go_roundw
              case rel => exact ⟨k + 1, some x, by omega, by go_num, rfl, HN, HV9, by rw [hbx, hbn] ; exact HM9, HB9⟩
              case measure => simp [RowKit.intOf]; omega
    · have hd : decide ((k : Int) < (n : Int)) = false := decide_eq_false (by omega)
      have HF : Hid (o = find r.data.toList a ss) := by
        show _ = _
        have := HO.out
        rw [List.take_of_length_le (by omega)] at this
        exact this
      obtain ⟨lt, c0, c1, c2, -, -, -⟩ := HM.out
      go_wp2_with fail
      go_ret2
      exact ⟨by rw [← HF.out]; rfl, HB.out⟩

end Go.Proofs.YtcoakjgeadkfoaaDoor
