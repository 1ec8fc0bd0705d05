/-
  Contract of a reader's item.
-/
import Derived.Test.YthihnpjbdjmbhaaGreatDoorG25

namespace Go.Proofs.YthihnpjbdjmbhaaGreatDoor
set_option linter.unusedSimpArgs false
set_option linter.unusedVariables false
open Go.RowKit Go.Vr Go.Sort Go.Tx Go.Lib
attribute [local go_sem] setCellDrewN allocDrewN

/-- What a piece of the reading told, and where the reader is then. -/
def Read (B R : Nat) (s : ByteArray) (o : Option (List Sp.S) × Nat) (e : Ending) (w' : World) : Prop := match o.1 with
  | none => e = .returned (.tuple #[.slice none 0 0, .bool false]) ∧ Box w' R (rd s o.2)
  | some l => ∃ v', e = .returned (.tuple #[v', .bool true]) ∧ EOwn ES w' B v' l ∧ Box w' R (rd s o.2)
theorem below_of {w0 w w' : World} {R : Nat} (hb : RowKit.Below w0.heap.size w0 w) (hR : w0.heap.size ≤ R) (hg : w.grownBy w' (some R)) : RowKit.Below w0.heap.size w0 w' := hb.grown hg hb.size (fun k e => by have := Option.some.inj e; omega)
theorem grown_below {w w1 w2 : World} {R : Nat} (hg : w.grownBy w1 (some R)) (hb : RowKit.Below w1.heap.size w1 w2) : w.grownBy w2 (some R) := grownBy_trans hg (grownBy_below (some R) hb) (.inl rfl)
theorem own_far {w w' : World} {B R : Nat} {v : Value} {l : List Sp.S} (o : EOwn ES w B v l) (hR : R < B) (hg : w.grownBy w' (some R)) : EOwn ES w' B v l :=
  o.kept hg (.inr fun e => by have := (o.low R e).1; omega)

set_option maxHeartbeats 16000000 in
set_option maxRecDepth 100000 in
theorem item_any (R : Nat) (s : ByteArray) (p : Nat) (w0 w : World) (X : Box w R (rd s p)) (hp : p ≤ s.size) (hs : s.size ≤ 3900) (hia : IA s) (hb : RowKit.Below w0.heap.size w0 w) (hR : w0.heap.size ≤ R) (he : Env w0) :
    Calls Tryz.prog 68 #[.pointer (some ⟨R, 0, none⟩)] w fun e w' => Read (R + 1) R s (Sp.itemM s.data.toList p) e w' ∧ w.grownBy w' (some R) := by
  have HE := hide he
  have HI := hide hia
  have HB := hide hb
  have HX := hide X
  have hwl := Sp.word_len s.data.toList p
  rw [len_eq] at hwl
  have hRw := X.lt
  have CW := hide (word_any R s p w X hp (by omega) hia)
  have hsz : (str (Sp.wordM s.data.toList p)).size = (Sp.wordM s.data.toList p).length := Tx.str_size _
  have hls : (str (Sp.wordM s.data.toList p)).data.toList = Sp.wordM s.data.toList p := str_list _
  have CM : Hid (∀ W, RowKit.Below w.heap.size w W → Calls Tryz.prog 100 #[.string (str (Sp.wordM s.data.toList p))] W fun e w' => Told W w' e (Sp.meantM (Sp.wordM s.data.toList p)) ∧ RowKit.Below W.heap.size W w') := fun W hW => by
    have := meant_any (str (Sp.wordM s.data.toList p)) W (by omega) (HE.out.later (HB.out.trans (hW.mono HB.out.size)))
    rw [hls] at this; exact this
  have CP : Hid (∀ W, RowKit.Below w0.heap.size w0 W → Calls Tryz.prog 101 #[.string (str (Sp.wordM s.data.toList p))] W fun e w' => e = .returned (pret (parse (Sp.wordM s.data.toList p))) ∧ RowKit.Below W.heap.size W w') := fun W hW => by
    have := parse_any (str (Sp.wordM s.data.toList p)) W (by omega) (HE.out.later hW)
    rw [hls] at this; exact this
  have HT : Hid (Sp.itemM s.data.toList p = match Sp.meantM (Sp.wordM s.data.toList p) with | none => (none, p) | some l => Sp.item1 s.data.toList (Sp.blM s.data.toList (p + (Sp.wordM s.data.toList p).length)) l (parse (Sp.wordM s.data.toList p))) := rfl
  have hpo := @parse_ok' (Sp.wordM s.data.toList p)
  clear X he hia hb hls
  generalize hwd : (Sp.wordM s.data.toList p).length = wl at *
  generalize str (Sp.wordM s.data.toList p) = x at *
  generalize parse (Sp.wordM s.data.toList p) = op at *
  cases hm : Sp.meantM (Sp.wordM s.data.toList p) with
  | none =>
    rw [hm] at CM HT
    go_enter Tryz.func68, Tryz.ntmps68
    go_wp2_with fail
    refine CW.out.mono ?_
    rintro e w1 ⟨rfl, b1⟩
    clear CW
    go_wp2_with fail
    refine (CM.out _ b1).mono ?_
    rintro e w2 ⟨t2, b2⟩
    have t2 : e = .returned (.tuple #[.slice none 0 0, .bool false]) := t2
    subst t2
    have b2 := step b1 b2
    clear CM b1
    go_wp2_with fail
    refine bodyPost_ret (v := .tuple #[.slice none 0 0, .bool false]) (by simp [results, Tryz.results68, go_sem]) rfl ⟨?_, grownBy_below _ b2⟩
    rw [HT.out]
    exact ⟨rfl, HX.out.later b2⟩
  | some l =>
    rw [hm] at CM HT
    have HT2 : Hid (Sp.itemM s.data.toList p = Sp.item1 s.data.toList (Sp.blM s.data.toList (p + wl)) l op) := HT
    have q2 := Sp.bl_le s.data.toList (p + wl) (by rw [len_eq]; omega)
    rw [len_eq] at q2
    have wr1 : wrap64 ((p : Int) + (wl : Int)) = (p : Int) + (wl : Int) := by unfold wrap64; omega
    have hxw : (x.size : Int) = (wl : Int) := by omega
    clear HT hm hwd
    go_enter Tryz.func68, Tryz.ntmps68
    go_wp2_with fail
    refine CW.out.mono ?_
    rintro e w1 ⟨rfl, b1⟩
    clear CW
    go_wp2_with fail
    refine (CM.out _ b1).mono ?_
    rintro e w2 ⟨⟨v2, rfl, o2⟩, b2⟩
    have o2 := o2.base (show R + 1 ≤ w1.heap.size from Nat.lt_of_lt_of_le hRw b1.size)
    have b2 := step b1 b2
    have X2 := HX.out.later b2
    have HX2 := hide X2
    obtain ⟨l2, c2, f2⟩ := X2
    clear CM b1
    go_wp2_with fail
    have X3 := set1 HX2.out ((p : Int) + (wl : Int)) (p + wl) (by omega)
    have g3 : w.grownBy (w2.setCell ⟨R, 1, none⟩ (.int .i64 ((p : Int) + (wl : Int)))) (some R) := grownBy_trans (grownBy_below _ b2) (grownBy_setCell _ _ _ _) (.inl rfl)
    have o3 := own_far o2 (by omega) (grownBy_setCell w2 R 1 (.int .i64 ((p : Int) + (wl : Int))))
    clear c2 f2 l2 HX2 o2 b2
    generalize w2.setCell ⟨R, 1, none⟩ (.int .i64 ((p : Int) + (wl : Int))) = w3 at *
    refine (blanks_any R s (p + wl) w3 X3 (by omega) (by omega)).mono ?_
    rintro e w4 ⟨rfl, X4, g4⟩
    have o4 := own_far o3 (by omega) g4
    have g4 := grownBy_trans g3 g4 (.inl rfl)
    clear X3 g3 o3
    generalize Sp.blM s.data.toList (p + wl) = q at *
    go_wp2_with fail
    refine (CP.out _ (below_of HB.out hR g4)).mono ?_
    rintro e w5 ⟨rfl, b5⟩
    have X5 := X4.later b5
    have o5 := o4.later b5
    have g5 := grown_below g4 b5
    clear CP X4 o4 g4 b5
    cases op with
    | none =>
      have HT3 : Hid (Sp.itemM s.data.toList p = (some l, q)) := HT2
      simp only [pret, Option.getD_none, Option.isSome_none]
      go_wp2_with fail
      refine bodyPost_ret (v := .tuple #[v2, .bool true]) (by simp [results, Tryz.results68, go_sem]) rfl ⟨?_, grown_below g5 (by repeat (first | with_reducible assumption | with_reducible exact Below.refl _ _ | with_reducible refine Below.setCell ?_ (by first | exact Nat.le_refl _ | (simp; done) | (simp; omega)) _ | with_reducible refine bal ?_ _ | with_reducible refine Below.alloc ?_ (by first | exact Nat.le_refl _ | (simp; done) | (simp; omega)) _ | with_reducible refine Below.drew ?_))⟩
      rw [HT3.out]
      exact ⟨v2, rfl, o5.later (by repeat (first | with_reducible assumption | with_reducible exact Below.refl _ _ | with_reducible refine Below.setCell ?_ (by first | exact Nat.le_refl _ | (simp; done) | (simp; omega)) _ | with_reducible refine bal ?_ _ | with_reducible refine Below.alloc ?_ (by first | exact Nat.le_refl _ | (simp; done) | (simp; omega)) _ | with_reducible refine Below.drew ?_)), X5.later (by repeat (first | with_reducible assumption | with_reducible exact Below.refl _ _ | with_reducible refine Below.setCell ?_ (by first | exact Nat.le_refl _ | (simp; done) | (simp; omega)) _ | with_reducible refine bal ?_ _ | with_reducible refine Below.alloc ?_ (by first | exact Nat.le_refl _ | (simp; done) | (simp; omega)) _ | with_reducible refine Below.drew ?_))⟩
    | some v =>
      have hv := hpo rfl
      have HV := hide hv
      have HT3 : Hid (Sp.itemM s.data.toList p = if Sp.wordM s.data.toList q = [45] then Sp.item2 s.data.toList q v else (some l, q)) := HT2
      have CW2 : Hid (∀ W, Box W R (rd s q) → Calls Tryz.prog 99 #[.pointer (some ⟨R, 0, none⟩)] W fun e w' => e = .returned (.string (str (Sp.wordM s.data.toList q))) ∧ RowKit.Below W.heap.size W w') := fun W hX => word_any R s q W hX (by omega) (by omega) HI.out
      have hy : (str (Sp.wordM s.data.toList q)).toList = Sp.wordM s.data.toList q := by rw [toList_data, str_list]
      have hwl2 := Sp.word_len s.data.toList q
      rw [len_eq] at hwl2
      clear HT2 hpo hv
      simp only [pret, Option.getD_some, Option.isSome_some]
      generalize hyw : str (Sp.wordM s.data.toList q) = y at *
      by_cases hd : Sp.wordM s.data.toList q = [45]
      · have HT4 : Hid (Sp.itemM s.data.toList p = Sp.item2 s.data.toList q v) := HT3.out.trans (if_pos hd)
        have hq1 : q + 1 ≤ s.size := by rw [hd] at hwl2; simp at hwl2; omega
        have e45 : y = ⟨#[45]⟩ := ba_ext (by rw [← hyw, str_list, hd])
        subst e45
        have q3 := Sp.bl_le s.data.toList (q + 1) (by rw [len_eq]; omega)
        rw [len_eq] at q3
        have HT5 : Hid (Sp.itemM s.data.toList p = match parse (Sp.wordM s.data.toList (Sp.blM s.data.toList (q + 1))) with | none => (none, Sp.blM s.data.toList (q + 1)) | some u => (some (Sp.only Sp.cmpC (some (v, false)) (some (u, true))), Sp.blM s.data.toList (q + 1) + (Sp.wordM s.data.toList (Sp.blM s.data.toList (q + 1))).length)) := HT4
        have hwl3 := Sp.word_len s.data.toList (Sp.blM s.data.toList (q + 1))
        rw [len_eq] at hwl3
        have CW3 : Hid (∀ W, Box W R (rd s (Sp.blM s.data.toList (q + 1))) → Calls Tryz.prog 99 #[.pointer (some ⟨R, 0, none⟩)] W fun e w' => e = .returned (.string (str (Sp.wordM s.data.toList (Sp.blM s.data.toList (q + 1))))) ∧ RowKit.Below W.heap.size W w') := fun W hX => word_any R s _ W hX (by omega) (by omega) HI.out
        have hz2 : (str (Sp.wordM s.data.toList (Sp.blM s.data.toList (q + 1)))).size = (Sp.wordM s.data.toList (Sp.blM s.data.toList (q + 1))).length := Tx.str_size _
        have hl2 : (str (Sp.wordM s.data.toList (Sp.blM s.data.toList (q + 1)))).data.toList = Sp.wordM s.data.toList (Sp.blM s.data.toList (q + 1)) := str_list _
        have CP2 : Hid (∀ W, RowKit.Below w0.heap.size w0 W → Calls Tryz.prog 101 #[.string (str (Sp.wordM s.data.toList (Sp.blM s.data.toList (q + 1))))] W fun e w' => e = .returned (pret (parse (Sp.wordM s.data.toList (Sp.blM s.data.toList (q + 1))))) ∧ RowKit.Below W.heap.size W w') := fun W hW => by
          have := parse_any (str (Sp.wordM s.data.toList (Sp.blM s.data.toList (q + 1)))) W (by omega) (HE.out.later hW)
          rw [hl2] at this; exact this
        have hpo2 := @parse_ok' (Sp.wordM s.data.toList (Sp.blM s.data.toList (q + 1)))
        have CA : Hid (∀ W, Calls Tryz.prog 31 #[ver v.a v.b v.c v.p] W fun e w' => e = .returned (pl (some (v, false))).val ∧ RowKit.Below W.heap.size W w') := fun W => ahead_raw _ _ _ _ W
        have CO : Hid (∀ (u : V) W, u.ok = true → RowKit.Below w0.heap.size w0 W → Calls Tryz.prog 102 #[(pl (some (v, false))).val, (pl (some (u, true))).val] W fun e w' => ∃ v', e = .returned v' ∧ EOwn ES w' W.heap.size v' (Sp.only Sp.cmpC (some (v, false)) (some (u, true))) ∧ RowKit.Below W.heap.size W w') := fun u W hu hW => by rw [← pl_val, ← pl_val]; exact only_any _ _ (Sp.ok_v HV.out false) (Sp.ok_v hu true) W (HE.out.later hW)
        clear HT3 HT4 hd hy hyw hwl2 hl2
        generalize hwl3' : (Sp.wordM s.data.toList (Sp.blM s.data.toList (q + 1))).length = wl3 at *
        generalize str (Sp.wordM s.data.toList (Sp.blM s.data.toList (q + 1))) = x3 at *
        generalize parse (Sp.wordM s.data.toList (Sp.blM s.data.toList (q + 1))) = o3 at *
        clear hwl3'
        generalize hq3 : Sp.blM s.data.toList (q + 1) = q3' at *
        generalize pl (some (v, false)) = ua at *
        obtain ⟨va, vb, vc, vp⟩ := v
        simp only at CA
        have WR2 : Hid (wrap64 ((q : Int) + 1) = (q : Int) + 1) := by show _ = _; unfold wrap64; omega
        have WR3 : Hid (wrap64 ((q3' : Int) + (wl3 : Int)) = (q3' : Int) + (wl3 : Int)) := by show _ = _; unfold wrap64; omega
        have HX3 : Hid ((x3.size : Int) = (wl3 : Int)) := by show _ = _; omega
        have HQ3 := hide hq3
        have HQ1 := hide hq1
        have HPO2 : Hid (∀ u, o3 = some u → u.ok = true) := fun u h => hpo2 h
        clear hq3 hq1 q3 hwl3 hz2 hpo2 q2
        go_wp2_with fail
        have b6 : RowKit.Below w5.heap.size w5 (w5.alloc (.cells #[.int .i64 va, .int .i64 vb, .int .i64 vc, .string vp] 37)) := (by repeat (first | with_reducible assumption | with_reducible exact Below.refl _ _ | with_reducible refine Below.setCell ?_ (by first | exact Nat.le_refl _ | (simp; done) | (simp; omega)) _ | with_reducible refine bal ?_ _ | with_reducible refine Below.alloc ?_ (by first | exact Nat.le_refl _ | (simp; done) | (simp; omega)) _ | with_reducible refine Below.drew ?_))
        have VB := Box.new w5 #[.int .i64 va, .int .i64 vb, .int .i64 vc, .string vp] 37
        refine (CW2.out _ (X5.later b6)).mono ?_
        rintro e w7 ⟨rfl, b7⟩
        have VB := VB.later b7
        have b7 := step b6 b7
        have X7 := X5.later b7
        have g7 := grown_below g5 b7
        have hNR : R ≠ w5.heap.size := Nat.ne_of_lt X5.lt
        have wr2 := WR2.out
        have HX7 := hide X7
        obtain ⟨l7, c7, f7⟩ := X7
        clear CW2 b6 X5 o5 g5
        generalize w5.heap.size = N at *
        go_wp2_with fail
        have X8 := set1 HX7.out ((q : Int) + 1) (q + 1) (by omega)
        have gs := grownBy_setCell w7 R 1 (.int .i64 ((q : Int) + 1))
        have VB := VB.kept gs (fun e => hNR (Option.some.inj e))
        have g8 := grownBy_trans g7 gs (.inl rfl)
        clear c7 f7 l7 HX7 g7 gs b7
        generalize w7.setCell ⟨R, 1, none⟩ (.int .i64 ((q : Int) + 1)) = w8 at *
        clear wr2
        refine (blanks_any R s (q + 1) w8 X8 HQ1.out (by omega)).mono ?_
        rintro e w9 ⟨rfl, X9, g9⟩
        rw [HQ3.out] at X9
        have VB := VB.kept g9 (fun e => hNR (Option.some.inj e))
        have g9 := grownBy_trans g8 g9 (.inl rfl)
        clear X8 g8
        go_wp2_with fail
        refine (CW3.out _ X9).mono ?_
        rintro e w10 ⟨rfl, b10⟩
        have X10 := X9.later b10
        have VB := VB.later b10
        have g10 := grown_below g9 b10
        clear CW3 X9 g9 b10
        go_wp2_with fail
        refine (CP2.out _ (below_of HB.out hR g10)).mono ?_
        rintro e w11 ⟨rfl, b11⟩
        have X11 := X10.later b11
        have VB := VB.later b11
        have g11 := grown_below g10 b11
        clear CP2 X10 g10 b11
        cases o3 with
        | none =>
          have HT6 : Hid (Sp.itemM s.data.toList p = (none, q3')) := HT5
          simp only [pret, Option.getD_none, Option.isSome_none]
          go_wp2_with fail
          refine bodyPost_ret (v := .tuple #[.slice none 0 0, .bool false]) (by simp [results, Tryz.results68, go_sem]) rfl ⟨?_, grown_below g11 (by repeat (first | with_reducible assumption | with_reducible exact Below.refl _ _ | with_reducible refine Below.setCell ?_ (by first | exact Nat.le_refl _ | (simp; done) | (simp; omega)) _ | with_reducible refine bal ?_ _ | with_reducible refine Below.alloc ?_ (by first | exact Nat.le_refl _ | (simp; done) | (simp; omega)) _ | with_reducible refine Below.drew ?_))⟩
          rw [HT6.out]
          exact ⟨rfl, X11.later (by repeat (first | with_reducible assumption | with_reducible exact Below.refl _ _ | with_reducible refine Below.setCell ?_ (by first | exact Nat.le_refl _ | (simp; done) | (simp; omega)) _ | with_reducible refine bal ?_ _ | with_reducible refine Below.alloc ?_ (by first | exact Nat.le_refl _ | (simp; done) | (simp; omega)) _ | with_reducible refine Below.drew ?_))⟩
        | some u =>
          have hu := HPO2.out _ rfl
          have HT6 : Hid (Sp.itemM s.data.toList p = (some (Sp.only Sp.cmpC (some (⟨va, vb, vc, vp⟩, false)) (some (u, true))), q3' + wl3)) := HT5
          have CO2 := hide (fun W => CO.out u W hu)
          have CBh : Hid (∀ W, Calls Tryz.prog 103 #[ver u.a u.b u.c u.p] W fun e w' => e = .returned (pl (some (u, true))).val ∧ RowKit.Below W.heap.size W w') := fun W => behind_raw _ _ _ _ W
          clear HT5 HPO2 CO hu
          simp only [pret, Option.getD_some, Option.isSome_some]
          generalize pl (some (u, true)) = ub at *
          generalize Sp.only Sp.cmpC (some (⟨va, vb, vc, vp⟩, false)) (some (u, true)) = lo1 at *
          obtain ⟨ua', ub', uc', up'⟩ := u
          simp only at CBh
          have b12 : RowKit.Below w11.heap.size w11 (w11.alloc (.cells #[.int .i64 ua', .int .i64 ub', .int .i64 uc', .string up'] 37)) := (by repeat (first | with_reducible assumption | with_reducible exact Below.refl _ _ | with_reducible refine Below.setCell ?_ (by first | exact Nat.le_refl _ | (simp; done) | (simp; omega)) _ | with_reducible refine bal ?_ _ | with_reducible refine Below.alloc ?_ (by first | exact Nat.le_refl _ | (simp; done) | (simp; omega)) _ | with_reducible refine Below.drew ?_))
          have UB := Box.new w11 #[.int .i64 ua', .int .i64 ub', .int .i64 uc', .string up'] 37
          have hMR : R ≠ w11.heap.size := Nat.ne_of_lt X11.lt
          have X12 := X11.later b12
          have VB := VB.later b12
          have g12 := grown_below g11 b12
          have wr3 := WR3.out
          have hx3 := HX3.out
          have c12 := X12.c
          have f12 := X12.f
          go_wp2_with fail
          have gs := grownBy_setCell (w11.alloc (.cells #[.int .i64 ua', .int .i64 ub', .int .i64 uc', .string up'] 37)) R 1 (.int .i64 ((q3' : Int) + (wl3 : Int)))
          have X13 := set1 X12 ((q3' : Int) + (wl3 : Int)) (q3' + wl3) (by omega)
          have VB := VB.kept gs (fun e => hNR (Option.some.inj e))
          have UB := UB.kept gs (fun e => hMR (Option.some.inj e))
          have g13 := grownBy_trans g12 gs (.inl rfl)
          clear c12 f12 X12 g12 gs wr3 hx3 X11 g11 b12
          generalize (w11.alloc (.cells #[.int .i64 ua', .int .i64 ub', .int .i64 uc', .string up'] 37)).setCell ⟨R, 1, none⟩ (.int .i64 ((q3' : Int) + (wl3 : Int))) = W at *
          generalize w11.heap.size = M at *
          have KV : ∀ w', RowKit.Below W.heap.size W w' → ∀ i, w'.cell? ⟨N, i, none⟩ = (#[.int .i64 va, .int .i64 vb, .int .i64 vc, .string vp] : Array Value)[i]? := fun w' h => (VB.later h).c
          have KU : ∀ w', RowKit.Below W.heap.size W w' → ∀ i, w'.cell? ⟨M, i, none⟩ = (#[.int .i64 ua', .int .i64 ub', .int .i64 uc', .string up'] : Array Value)[i]? := fun w' h => (UB.later h).c
          have hBW := RowKit.Below.refl W.heap.size W
          have HB0 := hide (below_of HB.out hR g13)
          have HX13 := hide X13
          have HG13 := hide g13
          have hRW : R + 1 ≤ W.heap.size := X13.lt
          clear VB UB X13 g13
          go_region_held3 (fun w' => RowKit.Below W.heap.size W w') (first | with_reducible assumption | exact (by repeat (first | with_reducible assumption | with_reducible exact Below.refl _ _ | with_reducible refine Below.setCell ?_ (by first | exact Nat.le_refl _ | (simp; done) | (simp; omega)) _ | with_reducible refine bal ?_ _ | with_reducible refine Below.alloc ?_ (by first | exact Nat.le_refl _ | (simp; done) | (simp; omega)) _ | with_reducible refine Below.drew ?_))) (first
            | (go_at_call 31; refine (CA.out _).mono ?_; rintro e w14 ⟨rfl, b14⟩; have b14 : RowKit.Below W.heap.size W w14 := (by refine Below.trans ?_ (Below.mono b14 ?_); rotate_left; exact Below.size (by with_reducible assumption); with_reducible assumption))
            | (go_at_call 103; refine (CBh.out _).mono ?_; rintro e w15 ⟨rfl, b15⟩; have b15 : RowKit.Below W.heap.size W w15 := (by refine Below.trans ?_ (Below.mono b15 ?_); rotate_left; exact Below.size (by with_reducible assumption); with_reducible assumption))
            | (go_at_call 102; refine (CO2.out _ (HB0.out.trans (b15.mono HB0.out.size))).mono ?_; rintro e w16 ⟨v16, rfl, o16, b16⟩; have s15 := b15.size; have b16 : RowKit.Below W.heap.size W w16 := (by refine Below.trans ?_ (Below.mono b16 ?_); rotate_left; exact Below.size (by with_reducible assumption); with_reducible assumption)))
          all_goals
            clear KV KU CA CBh CO2
            go_wp2_with fail
            refine bodyPost_ret (v := .tuple #[v16, .bool true]) (by simp [results, Tryz.results68, go_sem]) rfl ⟨?_, grown_below HG13.out b16⟩
            rw [HT6.out]
            exact ⟨v16, rfl, o16.base (by omega), HX13.out.later b16⟩
      · have HT4 : Hid (Sp.itemM s.data.toList p = (some l, q)) := HT3.out.trans (if_neg hd)
        have hne : (y.toList != [45]) = true := by rw [hy]; simpa using hd
        have hne2 : (y.toList == [45]) = false := by rw [hy]; simpa using hd
        clear HT3 hd hy hyw
        obtain ⟨va, vb, vc, vp⟩ := v
        go_wp2_with fail
        have b6 : RowKit.Below w5.heap.size w5 (w5.alloc (.cells #[.int .i64 va, .int .i64 vb, .int .i64 vc, .string vp] 37)) := (by repeat (first | with_reducible assumption | with_reducible exact Below.refl _ _ | with_reducible refine Below.setCell ?_ (by first | exact Nat.le_refl _ | (simp; done) | (simp; omega)) _ | with_reducible refine bal ?_ _ | with_reducible refine Below.alloc ?_ (by first | exact Nat.le_refl _ | (simp; done) | (simp; omega)) _ | with_reducible refine Below.drew ?_))
        refine (CW2.out _ (X5.later b6)).mono ?_
        rintro e w7 ⟨rfl, b7⟩
        have b7 := step b6 b7
        clear CW2 b6
        go_wp2_with fail
        refine bodyPost_ret (v := .tuple #[v2, .bool true]) (by simp [results, Tryz.results68, go_sem]) rfl ⟨?_, grown_below g5 b7⟩
        rw [HT4.out]
        exact ⟨v2, rfl, o5.later b7, X5.later b7⟩
end Go.Proofs.YthihnpjbdjmbhaaGreatDoor
