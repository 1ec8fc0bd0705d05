/-
  Contract of the reference's Parse.
-/
import Derived.Test.YtninheehoabbbaaGreatDoorQ21
import Derived.Test.YtninheehoabbbaaGreatDoorN20
import Derived.BigQuiet
namespace Go.Proofs.YtninheehoabbbaaGreatDoor
set_option linter.unusedSimpArgs false
set_option linter.unusedVariables false
open Go.RowKit Go.Vr Go.Sort Go.Tx Go.Lib
attribute [local go_sem] setCellDrewN allocDrewN

/-- What the reference's Parse answers. -/
def ParseR (o : Option (List Sp.S) × Nat) (e : Ending) (w' : World) : Prop := match o.1 with
  | none => e = .returned (.tuple #[.slice none 0 0, .int .i64 o.2, .int .i64 6])
  | some l => ∃ ad n cp, e = .returned (.tuple #[.slice ad n cp, .int .i64 0, .int .i64 0]) ∧ SR w' ad n l 4000
theorem parseR_no {o : Option (List Sp.S) × Nat} {q : Nat} {w' : World} {z : Int} (h : o = (none, q)) (hz : z = q) : ParseR o (.returned (.tuple #[.slice none 0 0, .int .i64 z, .int .i64 6])) w' := by rw [h, hz]; rfl

set_option maxHeartbeats 16000000 in
set_option maxRecDepth 100000 in
theorem rparseS_any (s : ByteArray) (w : World) (hs : s.size ≤ 1300) :
    Calls Tryz.prog 8 #[.string s] w fun e w' => ParseR (Sp.parseS s.data.toList) e w' ∧ RowKit.Below w.heap.size w w' := by
  have HP0 : Hid (Sp.parseS s.data.toList = Sp.partsG s.data.toList (s.size + 1) 0 []) := by show _ = _; unfold Sp.parseS; rw [len_eq]
  generalize Sp.parseS s.data.toList = pm at *
  go_enter Tryz.func8, Tryz.ntmps8
  go_wp2_with fail
  have X0 := hide (Box.new w (rd s 0) 54)
  have B0 : Hid (RowKit.Below w.heap.size w (w.alloc (.cells (rd s 0) 54))) := hide (by repeat (first | with_reducible assumption | with_reducible exact Below.refl _ _ | with_reducible refine Below.setCell ?_ (by first | exact Nat.le_refl _ | (simp; done) | (simp; omega)) _ | with_reducible refine bal ?_ _ | with_reducible refine Below.alloc ?_ (by first | exact Nat.le_refl _ | (simp; done) | (simp; omega)) _ | with_reducible refine Below.drew ?_))
  have S0 := hide (SR.nil (w.alloc (.cells (rd s 0) 54)) 1)
  have er : w.alloc (.cells (rd s 0) 54) = w.alloc (.cells #[.string s, .int .i64 0] 54) := rfl
  rw [er] at X0 B0 S0
  generalize w.alloc (.cells #[.string s, .int .i64 0] 54) = W1 at *
  clear er
  go_loopg [6] s.size (fun g a wr => ∃ (q f n cp : Nat) (adr : Option Addr) (ls : List (List Sp.S)), q ≤ s.size ∧ g = s.size - q ∧ s.size - q < f ∧ a = .slice adr n cp ∧ ls.flatten.length ≤ 3 * q ∧ Hid (Box wr w.heap.size (rd s q)) ∧ Hid (SR wr adr n (Sp.nrm ls.flatten) (3 * q + 1)) ∧ Hid (RowKit.Below w.heap.size w wr) ∧ Hid (pm = Sp.partsG s.data.toList f q ls))
  case atStart => exact ⟨0, s.size + 1, 0, 0, none, [], by omega, by omega, by omega, rfl, by simp, X0, S0, B0, HP0⟩
  case round =>
    clear X0 S0 B0 HP0
    obtain ⟨q, f, n, cp, adr, ls, hq, rfl, hf, rfl, hfl, HY, SA, HB, HP⟩ := hrel
    obtain ⟨f', rfl⟩ : ∃ f', f = f' + 1 := ⟨f - 1, by omega⟩
    have CI := hide (rpart_any w.heap.size s q wr HY.out hq hs)
    have HP2 : Hid (pm = match Sp.partM s.data.toList q with | (none, q) => (none, q) | (some l, q) => if q = s.data.toList.length then (some (Sp.nrm (ls ++ [l]).flatten), q) else if s.data.toList[q + 1]? = some 124 then Sp.partsG s.data.toList f' (q + 2) (ls ++ [l]) else (none, q + 1)) := HP
    have hpk := fun l q' => @part_ok s.data.toList q q' l (by rw [len_eq]; exact hq)
    have HPK := hide hpk
    clear HP hpk
    generalize Sp.partM s.data.toList q = im at *
    obtain ⟨im1, q1⟩ := im
    go_wp2_with fail
    refine CI.out.mono ?_
    rintro e w2 ⟨t2, g2⟩
    have SA2 := hide (SA.out.far HY.out g2)
    have B2 : Hid (RowKit.Below w.heap.size w w2) := hide (HB.out.grown g2 HB.out.size (fun k e => by have := Option.some.inj e; omega))
    clear CI g2 SA HB
    cases im1 with
    | none =>
      have HP3 : Hid (pm = (none, q1)) := HP2
      have t3 : e = .returned (.tuple #[.slice none 0 0, .int .i64 q1, .bool false]) := t2
      subst t3
      clear t2
      go_wp2_with fail
      exact bodyPost_ret (v := .tuple #[.slice none 0 0, .int .i64 q1, .int .i64 6]) (by simp [results, Tryz.results8, go_sem]) rfl ⟨parseR_no HP3.out rfl, B2.out⟩
    | some l =>
      obtain ⟨al, nl, cl, h2, sl, x2⟩ : ∃ ad n cp, e = .returned (.tuple #[.slice ad n cp, .int .i64 0, .bool true]) ∧ SR w2 ad n l 4000 ∧ Box w2 w.heap.size (rd s q1) := t2
      subst h2
      obtain ⟨okl, nml, lnl, hlt1, hle1, hend⟩ := HPK.out l q1 rfl
      rw [len_eq] at hle1 hend
      have HP3 : Hid (pm = if q1 = s.data.toList.length then (some (Sp.nrm (ls ++ [l]).flatten), q1) else if s.data.toList[q1 + 1]? = some 124 then Sp.partsG s.data.toList f' (q1 + 2) (ls ++ [l]) else (none, q1 + 1)) := HP2
      rw [len_eq] at HP3
      have HFL : Hid ((ls ++ [l]).flatten.length ≤ 3 * q1 + 2) := by
        show _ ≤ _
        have e : (ls ++ [l]).flatten.length = ls.flatten.length + l.length := by rw [List.flatten_append, List.length_append]; simp
        rw [e]; omega
      have SL := hide sl
      have X2 := hide x2
      have HEnd := hide hend
      have HQ1 : Hid (q < q1 ∧ q1 ≤ s.size ∧ s.size - q < f' + 1) := ⟨hlt1, hle1, hf⟩
      clear sl x2 okl nml lnl hlt1 hle1 hend HPK HP2 hfl HY
      have HBq : Hid (3 * q + 1 ≤ 4200) := by show _ ≤ _; omega
      go_wp2_with fail
      refine (ror_sl _ _ _ _ _ _ _ _ _ _ 4000 SA2.out SL.out HBq.out (by omega)).mono ?_
      rintro e w3 ⟨a3, n3, c3, rfl, h3, b3⟩
      rw [← Sp.or_app, Sp.or_snoc] at h3
      have S3 : Hid (SR w3 a3 n3 (Sp.nrm (ls ++ [l]).flatten) (3 * q1 + 3)) := ⟨h3.r, h3.row, by have h1 := nrm_len (ls ++ [l]).flatten; have h2 := HFL.out; rw [h3.r.n] at h1; omega⟩
      have X3 := hide (X2.out.later b3)
      have B3 := hide (step B2.out b3)
      have cY := X3.out.c
      have fY := X3.out.f
      clear h3 b3 SA2 SL X2 B2
      have hq1 := HQ1.out
      have i1 : (0 : Int) ≤ (q1 : Int) := by omega
      have wq1 : wrap64 ((q1 : Int) + 1) = ((q1 + 1 : Nat) : Int) := by unfold wrap64; omega
      have wq2 : wrap64 ((q1 : Int) + 2) = ((q1 + 2 : Nat) : Int) := by unfold wrap64; omega
      by_cases he : q1 = s.size
      · have HP4 := hide HP3.out
        rw [if_pos he] at HP4
        have i2 : (s.size : Int) ≤ (q1 : Int) := by omega
        have HBD : Hid (3 * q1 + 3 ≤ 4000) := by show _ ≤ _; omega
        have i3 : decide ((s.size : Int) ≤ (q1 : Int)) = true := decide_eq_true i2
        clear he hq1 HP3
        go_wp2_with fail
        refine bodyPost_ret (v := .tuple #[.slice a3 n3 c3, .int .i64 0, .int .i64 0]) (by simp [results, Tryz.results8, go_sem]) rfl ⟨?_, B3.out⟩
        rw [HP4.out]
        exact ⟨a3, n3, c3, rfl, S3.out.r, S3.out.row, Nat.le_trans S3.out.le HBD.out⟩
      · have HP4 := hide HP3.out
        rw [if_neg he] at HP4
        have hlt : q1 < s.size := by omega
        have i2 : ¬ (s.size : Int) ≤ (q1 : Int) := by omega
        have i3 : decide ((s.size : Int) ≤ (q1 : Int)) = false := decide_eq_false i2
        have i4 : decide (s.size ≤ q1) = false := by simp; omega
        by_cases he2 : q1 + 1 = s.size
        · have HP5 : Hid (pm = (none, q1 + 1)) := by show _ = _; rw [HP4.out, if_neg (by rw [List.getElem?_eq_none (by rw [len_eq]; omega)]; exact fun h => nomatch h)]
          have i5 : (s.size : Int) ≤ (q1 : Int) + 1 := by omega
          have i6 : decide ((s.size : Int) ≤ (q1 : Int) + 1) = true := decide_eq_true i5
          clear wq1 wq2
          go_wp2_with fail
          go_quiet (fail)
          have bq := belDrewN w3 nq
          have B4 := hide (step B3.out bq)
          clear bq cY fY
          go_wp2_with fail
          exact bodyPost_ret (v := .tuple #[.slice none 0 0, .int .i64 ((q1 : Int) + 1), .int .i64 6]) (by simp [results, Tryz.results8, go_sem]) rfl ⟨parseR_no HP5.out (by omega), B4.out⟩
        · have hlt2 : q1 + 1 < s.size := by omega
          have i5 : ¬ (s.size : Int) ≤ (q1 : Int) + 1 := by omega
          have i6 : decide ((s.size : Int) ≤ (q1 : Int) + 1) = false := decide_eq_false i5
          have i7 : (q1 : Int) + 1 < (s.size : Int) := by omega
          have i8 : (0 : Int) ≤ (q1 : Int) + 1 := by omega
          have hget : s.data.toList[q1 + 1]? = some s[q1 + 1] := Lib.data_getElem? s (q1 + 1) hlt2
          clear wq1 wq2
          by_cases hc : s[q1 + 1] = 124
          · have HP5 : Hid (pm = Sp.partsG s.data.toList f' (q1 + 2) (ls ++ [l])) := by show _ = _; rw [HP4.out, if_pos (by rw [hget, hc])]
            clear hget
            go_wp2_with fail
            go_roundg (s.size - (q1 + 2))
            case measure => omega
            case rel =>
              have hg : w3.grownBy (w3.setCell ⟨w.heap.size, 1, none⟩ (.int .i64 ((q1 : Int) + 2))) (some w.heap.size) := grownBy_setCell _ _ _ _
              have s4 := S3.out.far X3.out hg
              refine ⟨q1 + 2, f', n3, c3, a3, ls ++ [l], by omega, rfl, by omega, rfl, by have := HFL.out; omega, hide (set1 X3.out ((q1 : Int) + 2) (q1 + 2) (by omega)), hide ⟨s4.r, s4.row, Nat.le_trans s4.le (by omega)⟩, hide (B3.out.grown hg B3.out.size (fun k e => by have := Option.some.inj e; omega)), HP5⟩
          · have HP5 : Hid (pm = (none, q1 + 1)) := by show _ = _; rw [HP4.out, if_neg (by rw [hget]; exact fun h => hc (Option.some.inj h))]
            have hne : ((s[q1 + 1].toNat : Int) == 124) = false := by
              have : ¬ s[q1 + 1].toNat = 124 := fun h => hc (UInt8.toNat_inj.1 h)
              simpa using (by omega : ¬ (s[q1 + 1].toNat : Int) = 124)
            have hne2 : ¬ (s[q1 + 1].toNat : Int) = 124 := by simpa using hne
            clear hget hc
            go_wp2_with fail
            go_quiet (fail)
            have bq := belDrewN w3 nq
            have B4 := hide (step B3.out bq)
            clear bq cY fY
            go_wp2_with fail
            exact bodyPost_ret (v := .tuple #[.slice none 0 0, .int .i64 ((q1 : Int) + 1), .int .i64 6]) (by simp [results, Tryz.results8, go_sem]) rfl ⟨parseR_no HP5.out (by omega), B4.out⟩
end Go.Proofs.YtninheehoabbbaaGreatDoor
