/-
  Contract of a reader's parts.
-/
import Derived.Test.YtninheehoabbbaaGreatDoorN20
namespace Go.Proofs.YtninheehoabbbaaGreatDoor
set_option linter.unusedSimpArgs false
set_option linter.unusedVariables false
open Go.RowKit Go.Vr Go.Sort Go.Tx Go.Lib
attribute [local go_sem] setCellDrewN allocDrewN

theorem or_own (B B' : Nat) (o : Value) (us : List Sl) (ls : List (List Sp.S)) (w0 W : World) (h : EOwn ER W B o us) (e : EachO W B' us ls) (hl : ls.length ≤ 2001) (hf : ls.flatten.length ≤ 9000) (h2 : ∀ l ∈ ls, Sp.okL l) (hb : RowKit.Below w0.heap.size w0 W) (he : Env w0) :
    Calls Tryz.prog 15 #[o] W fun e w' => ∃ v', e = .returned v' ∧ EOwn ES w' W.heap.size v' (Sp.nrm ls.flatten) ∧ RowKit.Below W.heap.size W w' := by
  obtain ⟨ad, cap, rfl, _, _, hr⟩ := h.any
  have h3 := e.len
  exact sor_any _ _ _ ls W ⟨us, hr, e.each⟩ (by omega) hf (fun t ht => by obtain ⟨k, hk, ht⟩ := List.mem_flatten.1 ht; exact h2 k hk t ht) (he.later hb)

set_option maxHeartbeats 16000000 in
set_option maxRecDepth 100000 in
theorem parts_any (R : Nat) (s : ByteArray) (w0 w : World) (X : Box w R (rd s 0)) (hs : s.size ≤ 2000) (hia : IA s) (hb : RowKit.Below w0.heap.size w0 w) (hR : w0.heap.size ≤ R) (he : Env w0) :
    Calls Tryz.prog 17 #[.pointer (some ⟨R, 0, none⟩)] w fun e w' => Read (R + 1) R s (Sp.parseS s.data.toList) e w' ∧ w.grownBy w' (some R) := by
  have HE := hide he
  have HI := hide hia
  have HB := hide hb
  have HRw := hide X.lt
  have HP0 : Hid (Sp.parseS s.data.toList = Sp.partsG s.data.toList (s.size + 1) 0 []) := by show _ = _; unfold Sp.parseS; rw [len_eq]
  clear he hia hb
  generalize Sp.parseS s.data.toList = pm at *
  go_enter Tryz.func17, Tryz.ntmps17
  go_wp2_with fail
  go_loopg [4] s.size (fun g o wr => ∃ (q n : Nat) (us : List Sl) (ls : List (List Sp.S)), q ≤ s.size ∧ g = s.size - q ∧ s.size - q < n ∧ Box wr R (rd s q) ∧ EOwn ER wr w.heap.size o us ∧ EachO wr (R + 1) us ls ∧ w.grownBy wr (some R) ∧ ls.length ≤ q ∧ ls.flatten.length ≤ 3 * q ∧ Hid (∀ l ∈ ls, Sp.okL l) ∧ Hid (pm = Sp.partsG s.data.toList n q ls))
  case atStart => exact ⟨0, s.size + 1, [], [], by omega, by omega, by omega, X, EOwn.nil _ _, trivial, ⟨rfl, rfl, rfl, Nat.le_refl _, fun _ _ _ => rfl⟩, by simp, by simp, (fun _ h => nomatch h), HP0⟩
  case round =>
    obtain ⟨q, n, us, ls, hq, rfl, hn, Y, o1, e1, g2, hlq, hfq, HLS, HP⟩ := hrel
    obtain ⟨n', rfl⟩ : ∃ n', n = n' + 1 := ⟨n - 1, by omega⟩
    have CI := hide (part_any R s q w0 wr Y hq hs HI.out (below_of HB.out hR g2) hR HE.out)
    have HP2 : Hid (pm = match Sp.partM s.data.toList q with | (none, q) => (none, q) | (some l, q) => if q = s.data.toList.length then (some (Sp.nrm (ls ++ [l]).flatten), q) else if s.data.toList[q + 1]? = some 124 then Sp.partsG s.data.toList n' (q + 2) (ls ++ [l]) else (none, q + 1)) := HP
    have hpk := fun l q' => @part_ok s.data.toList q q' l (by rw [len_eq]; exact hq)
    clear X HP HP0 Y
    generalize Sp.partM s.data.toList q = im at *
    obtain ⟨im1, q1⟩ := im
    cases im1 with
    | none =>
      have HP3 : Hid (pm = (none, q1)) := HP2
      have HO1 := hide o1
      have HE1 := hide e1
      have HG2 := hide g2
      clear o1 e1 g2 HP2 hpk hlq hfq hn hq
      go_wp2_with fail
      refine CI.out.mono ?_
      rintro e w2 ⟨t2, g3⟩
      obtain ⟨h2, X2⟩ : e = .returned (.tuple #[.slice none 0 0, .bool false]) ∧ Box w2 R (rd s q1) := t2
      subst h2
      clear CI
      go_wp2_with fail
      refine bodyPost_ret (v := .tuple #[.slice none 0 0, .bool false]) (by simp [results, Tryz.results17, go_sem]) rfl ⟨?_, grownBy_trans HG2.out g3 (.inl rfl)⟩
      rw [HP3.out]
      exact ⟨rfl, X2⟩
    | some l =>
      obtain ⟨okl, nml, lnl, hlt1, hle1, hend⟩ := hpk l q1 rfl
      rw [len_eq] at hle1 hend
      have HLS2 : Hid (∀ k ∈ ls ++ [l], Sp.okL k) := by
        intro k hk
        rcases List.mem_append.1 hk with hk | hk
        · exact HLS.out k hk
        · rw [List.mem_singleton.1 hk]; exact okl
      have HP3 : Hid (pm = if q1 = s.data.toList.length then (some (Sp.nrm (ls ++ [l]).flatten), q1) else if s.data.toList[q1 + 1]? = some 124 then Sp.partsG s.data.toList n' (q1 + 2) (ls ++ [l]) else (none, q1 + 1)) := HP2
      have hul := e1.len
      have HUL : Hid (us.length ≤ 2000) := by show _ ≤ _; omega
      have HF : Hid ((ls ++ [l]).flatten.length ≤ 3 * q1 + 2 ∧ (ls ++ [l]).length ≤ q1 ∧ q1 ≤ s.size ∧ q < q1 ∧ s.size - q < n' + 1) := by
        refine ⟨?_, ?_, hle1, hlt1, hn⟩
        · have hfl : (ls ++ [l]).flatten.length = ls.flatten.length + l.length := by rw [List.flatten_append, List.length_append]; simp
          rw [hfl]; omega
        · rw [List.length_append]; simp; omega
      have HEnd := hide hend
      have HO1 := hide o1
      have HE1 := hide e1
      have HG2 := hide g2
      clear o1 e1 g2 HP2 hpk hlq hfq hn hq hul okl nml lnl hlt1 hle1 hend HLS
      go_wp2_with fail
      refine CI.out.mono ?_
      rintro e w2 ⟨t2, g3⟩
      obtain ⟨v2, h2, o2, X2⟩ : ∃ v', e = .returned (.tuple #[v', .bool true]) ∧ EOwn ES w2 (R + 1) v' l ∧ Box w2 R (rd s q1) := t2
      subst h2
      obtain ⟨ad2, cap2, rfl, _, _, _⟩ := o2.any
      have HO2 := hide (HO1.out.kept g3 (.inr fun e => by have := (HO1.out.low R e).1; have := HRw.out; omega))
      have HE2 := hide (HE1.out.far (show R < R + 1 by omega) g3)
      have HG3 := hide (grownBy_trans HG2.out g3 (.inl rfl))
      have HL2 := hide o2
      have HX2 := hide X2
      clear CI o2 X2 g3 HO1 HE1 HG2
      generalize l.length = m2 at *
      have hbw : Hid (w.heap.size ≤ w2.heap.size) := HG3.out.size
      go_wp2_with (refine wpList_eapp ER rfl _ _ rfl w.heap.size _ us (some _) 1 1 [⟨ad2, m2, cap2⟩] rfl rfl (HO2.out.later (by repeat (first | with_reducible assumption | with_reducible exact Below.refl _ _ | with_reducible refine Below.setCell ?_ (by first | exact Nat.le_refl _ | (simp; done) | (simp; omega)) _ | with_reducible refine bal ?_ _ | with_reducible refine Below.alloc ?_ (by first | exact Nat.le_refl _ | (simp; done) | (simp; omega)) _ | with_reducible refine Below.drew ?_))) (ERow.new ER w2 ⟨ad2, m2, cap2⟩ _) (by have := HUL.out; simp; omega) (by have := hbw.out; simp; omega) ?_; intro v4 w4 o4 g4 t4)
      have hba : RowKit.Below w2.heap.size w2 (w2.alloc (.cells #[.slice ad2 m2 cap2] 28)) := (by repeat (first | with_reducible assumption | with_reducible exact Below.refl _ _ | with_reducible refine Below.setCell ?_ (by first | exact Nat.le_refl _ | (simp; done) | (simp; omega)) _ | with_reducible refine bal ?_ _ | with_reducible refine Below.alloc ?_ (by first | exact Nat.le_refl _ | (simp; done) | (simp; omega)) _ | with_reducible refine Below.drew ?_))
      have oe := HO2.out.later hba
      have E4 := hide (((HE2.out.later hba).app (t := ⟨ad2, m2, cap2⟩) (HL2.out.later hba)).kept oe g4)
      have X4 := hide ((HX2.out.later hba).kept g4 (fun e => by have := (oe.low R e).1; have := HRw.out; omega))
      have G4 := hide (grownBy_trans (grown_below HG3.out hba) g4 (.inr fun k e => (oe.low k e).1))
      have O4 := hide o4
      clear HO2 HE2 HG3 HL2 HX2 hba oe g4 t4 o4 hbw
      refine (done_any R s q1 w4 X4.out).mono ?_
      rintro e w5 ⟨rfl, m5, rfl⟩
      have b5 := hide (belDrewN w4 m5)
      have E5 := hide (E4.out.later b5.out)
      have X5 := hide (X4.out.later b5.out)
      have G5 := hide (grown_below G4.out b5.out)
      have O5 := hide (O4.out.later b5.out)
      clear E4 X4 G4 O4 b5
      generalize w4.drewN m5 = w5 at *
      by_cases he : q1 = s.size
      · have HP4 : Hid (pm = (some (Sp.nrm (ls ++ [l]).flatten), q1)) := HP3.out.trans (if_pos (by rw [len_eq]; exact he))
        have hd : decide (q1 = s.size) = true := decide_eq_true he
        have CC := hide (or_own _ _ _ _ _ w0 _ O5.out E5.out (by have := HF.out; omega) (by have := HF.out; omega) HLS2.out (below_of HB.out hR G5.out) HE.out)
        have hs8 : Hid (R + 1 ≤ w5.heap.size) := Nat.lt_of_lt_of_le HRw.out G5.out.size
        rw [hd]
        clear hd he HP3 HEnd HF HLS2 O5 E5
        go_wp2_with fail
        refine CC.out.mono ?_
        rintro e w9 ⟨v9, rfl, o9, b9⟩
        clear CC
        go_wp2_with fail
        refine bodyPost_ret (v := .tuple #[v9, .bool true]) (by simp [results, Tryz.results17, go_sem]) rfl ⟨?_, grown_below G5.out b9⟩
        rw [HP4.out]
        exact ⟨v9, rfl, o9.base hs8.out, X5.out.later b9⟩
      · have hd : decide (q1 = s.size) = false := decide_eq_false he
        have h124 := HEnd.out.resolve_left he
        have CBr := hide (bars_any R s q1 w5 X5.out h124 (by omega))
        have HP4 : Hid (pm = if s.data.toList[q1 + 1]? = some 124 then Sp.partsG s.data.toList n' (q1 + 2) (ls ++ [l]) else (none, q1 + 1)) := HP3.out.trans (if_neg (by rw [len_eq]; exact he))
        rw [hd]
        clear hd he HP3 HEnd h124
        by_cases h2 : s.data.toList[q1 + 1]? = some 124
        · have HP5 : Hid (pm = Sp.partsG s.data.toList n' (q1 + 2) (ls ++ [l])) := HP4.out.trans (if_pos h2)
          have hq2 : q1 + 1 < s.size := by rw [← len_eq]; exact (List.getElem?_eq_some_iff.1 h2).1
          have HQ2 : Hid (q1 + 2 ≤ s.size ∧ s.size - (q1 + 2) < n' ∧ (ls ++ [l]).length ≤ q1 + 2 ∧ (ls ++ [l]).flatten.length ≤ 3 * (q1 + 2) ∧ s.size - (q1 + 2) < s.size - q) := by
            obtain ⟨f1, f2, f3, f4, f5⟩ := HF.out
            exact ⟨by omega, by omega, by omega, by omega, by omega⟩
          have H2 := hide h2
          clear h2 hq2 HP4 HF
          go_wp2_with fail
          refine CBr.out.mono ?_
          rintro e w6 ⟨t6, g6⟩
          unfold Barred at t6
          rw [if_pos H2.out] at t6
          obtain ⟨rfl, X6⟩ := t6
          have O6 := O5.out.kept g6 (.inr fun e => by have := (O5.out.low R e).1; have := HRw.out; omega)
          have E6 := E5.out.far (show R < R + 1 by omega) g6
          have G6 := grownBy_trans G5.out g6 (.inl rfl)
          have HX6 := hide X6
          have HO6 := hide O6
          have HE6 := hide E6
          have HG6 := hide G6
          clear CBr X6 O6 E6 G6 g6 O5 E5 X5 G5
          go_wp2_with fail
          go_roundg (s.size - (q1 + 2))
          case measure => exact HQ2.out.2.2.2.2
          case rel => exact ⟨q1 + 2, n', us ++ [⟨ad2, m2, cap2⟩], ls ++ [l], HQ2.out.1, rfl, HQ2.out.2.1, HX6.out, HO6.out, HE6.out, HG6.out, HQ2.out.2.2.1, HQ2.out.2.2.2.1, HLS2, HP5⟩
        · have HP5 : Hid (pm = (none, q1 + 1)) := HP4.out.trans (if_neg h2)
          have H2 := hide h2
          clear h2 HP4 HF
          go_wp2_with fail
          refine CBr.out.mono ?_
          rintro e w6 ⟨t6, g6⟩
          unfold Barred at t6
          rw [if_neg H2.out] at t6
          obtain ⟨rfl, X6⟩ := t6
          have HX6 := hide X6
          have HG6 := hide (grownBy_trans G5.out g6 (.inl rfl))
          clear CBr X6 g6 O5 E5 X5 G5
          go_wp2_with fail
          refine bodyPost_ret (v := .tuple #[.slice none 0 0, .bool false]) (by simp [results, Tryz.results17, go_sem]) rfl ⟨?_, HG6.out⟩
          rw [HP5.out]
          exact ⟨rfl, HX6.out⟩
end Go.Proofs.YtninheehoabbbaaGreatDoor
