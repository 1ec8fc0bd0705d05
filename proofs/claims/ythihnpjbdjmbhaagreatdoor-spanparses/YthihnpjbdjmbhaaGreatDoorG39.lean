/-
  Contract of the reference's reader: part.
-/
import Derived.Test.YthihnpjbdjmbhaaGreatDoorG31
import Derived.Test.YthihnpjbdjmbhaaGreatDoorG38
import Derived.Test.YthihnpjbdjmbhaaGreatDoorG26
import Derived.BigQuiet

namespace Go.Proofs.YthihnpjbdjmbhaaGreatDoor
set_option linter.unusedSimpArgs false
set_option linter.unusedVariables false
open Go.RowKit Go.Vr Go.Sort Go.Tx Go.Lib
attribute [local go_sem] setCellDrewN allocDrewN

/-- A row of spans is no reader: what is written into the reader leaves it. -/
theorem SR.far {w w' : World} {ad : Option Addr} {n B R p : Nat} {l : List Sp.S} {s : ByteArray} (h : SR w ad n l B) (X : Box w R (rd s p)) (hg : w.grownBy w' (some R)) : SR w' ad n l B := by
  refine ⟨?_, h.row, h.le⟩
  by_cases h0 : n = 0
  · subst h0
    have hl := h.r.empty
    subst hl
    exact ⟨rfl, fun _ => rfl, fun x e j v hj => by simp [El.encs] at hj⟩
  · obtain ⟨b, off, rfl⟩ := h.r.spot (by omega)
    refine h.r.keptAt hg ?_
    intro e
    have e := Option.some.inj e
    subst e
    have hlk : 0 < l.length := by rw [h.r.n]; omega
    have c := (ES_at h.r 0 l[0] (List.getElem?_eq_getElem hlk)).2.2.1
    rw [X.c] at c
    have : (rd s p)[off + 0 * 11 + 2]? = none := by
      rw [Array.getElem?_eq_none]
      show 2 ≤ _
      omega
    rw [this] at c
    exact nomatch c
theorem all_len3 {ls : List (List Sp.S)} (h : ∀ l ∈ ls, Sp.Row l ∧ l.length ≤ 2) : (Sp.allL ls).length ≤ 3 * ls.length + 2 := by
  have h1 : (ls.flatMap Sp.notL).length ≤ 3 * ls.length := by
    induction ls with
    | nil => simp
    | cons l ls ih =>
      have i := ih fun m hm => h m (by simp [hm])
      have j := (h l (by simp)).2
      have k := not_len l
      rw [List.flatMap_cons, List.length_append, List.length_cons]
      omega
  unfold Sp.allL
  have h2 := not_len (Sp.nrm (ls.flatMap Sp.notL))
  have h3 := nrm_len (ls.flatMap Sp.notL)
  omega
/-- What part answers. -/
def PartR (R : Nat) (s : ByteArray) (o : Option (List Sp.S) × Nat) (e : Ending) (w' : World) : Prop := match o.1 with
  | none => e = .returned (.tuple #[.slice none 0 0, .int .i64 o.2, .bool false])
  | some l => ∃ ad n cp, e = .returned (.tuple #[.slice ad n cp, .int .i64 0, .bool true]) ∧ SR w' ad n l 4000 ∧ Box w' R (rd s o.2)
theorem partR_no {R : Nat} {s : ByteArray} {o : Option (List Sp.S) × Nat} {q : Nat} {w' : World} (h : o = (none, q)) : PartR R s o (.returned (.tuple #[.slice none 0 0, .int .i64 q, .bool false])) w' := by rw [h]; rfl
theorem SR.all {w : World} {ad : Option Addr} {n B : Nat} {ls : List (List Sp.S)} (h : SR w ad n (Sp.allL ls) B) (hls : ∀ l ∈ ls, Sp.Row l ∧ l.length ≤ 2) : SR w ad n (Sp.allL ls) (3 * ls.length + 2) := ⟨h.r, h.row, by have := all_len3 hls; rw [h.r.n] at this; exact this⟩
theorem mem_snoc {P : List Sp.S → Prop} {ls : List (List Sp.S)} {l : List Sp.S} (h : ∀ m ∈ ls, P m) (k : P l) : ∀ m ∈ ls ++ [l], P m := fun m hm => (List.mem_append.1 hm).elim (h m) (fun e => by rw [List.mem_singleton.1 e]; exact k)

set_option maxHeartbeats 16000000 in
set_option maxRecDepth 100000 in
theorem rpart_any (R : Nat) (s : ByteArray) (p : Nat) (w : World) (X : Box w R (rd s p)) (hp : p ≤ s.size) (hs : s.size ≤ 1300) :
    Calls Tryz.prog 18 #[.pointer (some ⟨R, 0, none⟩)] w fun e w' => PartR R s (Sp.partM s.data.toList p) e w' ∧ w.grownBy w' (some R) := by
  have HX := hide X
  have HST := hide (Sp.St.begin s.data.toList p)
  have q0 := Sp.bl_le s.data.toList p (by rw [len_eq]; omega)
  rw [len_eq] at q0 HST
  clear X
  generalize Sp.partM s.data.toList p = pm at *
  go_enter Tryz.func18, Tryz.ntmps18
  go_wp2_with fail
  refine (rnot_sl _ _ _ _ [] 0 (SR.nil _ 0) (by omega)).mono ?_
  rintro e w1 ⟨a1, n1, c1, rfl, h1, b1⟩
  have S1 := hide h1
  have X1 := hide (HX.out.later b1)
  have G1 := hide (grownBy_below (some R) b1)
  clear h1 b1
  go_wp2_with fail
  refine (rblanks_any R s p w1 X1.out hp (by omega)).mono ?_
  rintro e w2 ⟨rfl, x2, g2⟩
  have S2 := hide (S1.out.far X1.out g2)
  have X2 := hide x2
  have G2 := hide (grownBy_trans G1.out g2 (.inl rfl))
  clear x2 g2 S1 X1 G1
  have e0 : Sp.notL [] = Sp.allL [] := rfl
  rw [e0] at S2
  generalize Sp.blM s.data.toList p = q0' at *
  have S3 : Hid (SR w2 a1 n1 (Sp.allL []) (3 * ([] : List (List Sp.S)).length + 2)) := hide (S2.out.all (fun _ h => nomatch h))
  go_wp2_with fail
  go_loopg [5, 6] (s.size - q0') (fun g a i wr => ∃ (q f ad n cp : Nat) (adr : Option Addr) (ls : List (List Sp.S)), q ≤ s.size ∧ g = s.size - q ∧ s.size - q < f ∧ a = .slice adr n cp ∧ i = .int .i64 (ls.length : Nat) ∧ ls.length ≤ q ∧ ad = 0 ∧ Hid (Box wr R (rd s q)) ∧ Hid (SR wr adr n (Sp.allL ls) (3 * ls.length + 2)) ∧ Hid (w.grownBy wr (some R)) ∧ Hid (∀ l ∈ ls, Sp.Row l ∧ l.length ≤ 2) ∧ Hid (Sp.St s.data.toList pm q ls f)) 
  case atStart => exact ⟨q0', s.size + 1, 0, n1, c1, a1, [], by omega, rfl, by omega, rfl, rfl, by simp, rfl, X2, S3, G2, hide (fun _ h => nomatch h), HST⟩
  case round =>
    clear S2 S3 X2 G2 HST
    obtain ⟨q, f, _, n, cp, adr, ls, hq, rfl, hf, rfl, rfl, hlq, -, HY, SA, G, HLS, ST⟩ := hrel
    obtain ⟨f', rfl⟩ : ∃ f', f = f' + 1 := ⟨f - 1, by omega⟩
    --ROUND
    have hK0 : (0 : Int) ≤ ((ls.length : Nat) : Int) := by omega
    have hKb : ((ls.length : Nat) : Int) ≤ 1300 := by omega
    have HLQ := hide hlq
    have HLN : Hid (ls = [] ↔ ((ls.length : Nat) : Int) = 0) := ⟨fun h => by rw [h]; rfl, fun h => List.eq_nil_of_length_eq_zero (by omega)⟩
    generalize hK : ((ls.length : Nat) : Int) = K at *
    have HK := hide hK
    clear hK hlq
    have wK : wrap64 (K + 1) = K + 1 := by unfold wrap64; omega
    have i1 : (0 : Int) ≤ (q : Int) := by omega
    have cY := HY.out.c
    by_cases hd : ls ≠ [] ∧ (q = s.size ∨ s.data.toList[q]? = some 124)
    · have HPM : Hid (pm = (some (Sp.allL ls), q)) := ST.out.fin (by rw [len_eq]; exact hd)
      have k0 : (0 : Int) < K := by
        have := HLN.out
        have h1 : ¬ K = 0 := fun h => hd.1 (this.2 h)
        omega
      have dk : decide (0 < K) = true := decide_eq_true k0
      have HBND : Hid (3 * ls.length + 2 ≤ 4000) := by show _ ≤ _; have := HLQ.out; omega
      have hcs : q = s.size ∨ (∃ h : q < s.size, s[q]'h = 124) := by
        rcases hd.2 with h | h
        · exact .inl h
        · by_cases hqs : q < s.size
          · refine .inr ⟨hqs, ?_⟩
            rw [Lib.data_getElem? s q hqs] at h
            exact Option.some.inj h
          · exact .inl (by omega)
      clear hd
      rcases hcs with rfl | ⟨hqs, hc⟩
      all_goals
        first
          | have i2 : (q : Int) < (s.size : Int) := by omega
            have n2 : ¬ s.size ≤ q := by omega
            have n3 : decide (s.size ≤ q) = false := decide_eq_false n2
            skip
          | skip
        go_wp2_with fail
        go_quiet (fail)
        have bq := belDrewN wr nq
        have S9 := hide (SA.out.later bq)
        have X9 := hide (HY.out.later bq)
        have G9 := hide (grown_below G.out bq)
        clear bq cY
        generalize wr.drewN nq = w3 at *
        go_wp2_with fail
        refine bodyPost_ret (v := .tuple #[.slice adr n cp, .int .i64 0, .bool true]) (by simp [results, Tryz.results18, go_sem]) rfl ⟨?_, G9.out⟩
        rw [HPM.out]
        exact ⟨adr, n, cp, rfl, ⟨S9.out.r, S9.out.row, Nat.le_trans S9.out.le HBND.out⟩, X9.out⟩
    · have HC : Hid (¬ (ls ≠ [] ∧ (q = s.data.toList.length ∨ s.data.toList[q]? = some 124))) := by rw [len_eq]; exact hd
      have hcs : K = 0 ∨ (0 < K ∧ ∃ h : q < s.size, ¬ s[q]'h = 124) := by
        by_cases h0 : K = 0
        · exact .inl h0
        · have hne : ls ≠ [] := fun h => h0 (HLN.out.1 h)
          refine .inr ⟨by omega, ?_⟩
          have h2 : ¬ (q = s.size ∨ s.data.toList[q]? = some 124) := fun h => hd ⟨hne, h⟩
          have hqs : q < s.size := by
            have : ¬ q = s.size := fun h => h2 (.inl h)
            omega
          refine ⟨hqs, fun h => h2 (.inr ?_)⟩
          rw [Lib.data_getElem? s q hqs, h]
      clear hd
      rcases hcs with hz | ⟨k0, hqs, hc⟩
      · have dk : decide (0 < K) = false := by simp; omega
        have HZ := hide hz
        clear hz
        go_wp2_with fail
        go_quiet (fail)
        have bq := belDrewN wr nq
        replace HY := hide (HY.out.later bq)
        replace SA := hide (SA.out.later bq)
        replace G := hide (grown_below G.out bq)
        clear bq cY
        generalize wr.drewN nq = w3 at *
        clear dk
        go_wp2_with fail
        refine (rdword_any R s q w3 HY.out hq (by omega)).mono ?_
        rintro e w4 ⟨x, rfl, hx, x4, g4⟩
        replace SA := hide (SA.out.far HY.out g4)
        replace HY := hide x4
        replace G := hide (grownBy_trans G.out g4 (.inl rfl))
        have hwl := Sp.word_len s.data.toList q
        rw [len_eq] at hwl
        have hbl := Sp.bl_le s.data.toList (q + (Sp.wordM s.data.toList q).length) (by rw [len_eq]; omega)
        rw [len_eq] at hbl
        have hxs : x.size ≤ 4000 := by rw [← len_eq, hx]; omega
        have HPB : Hid (Sp.blM s.data.toList (q + (Sp.wordM s.data.toList q).length) ≤ s.size) := hbl.2
        have CO := hide (rone_any x w4 hxs)
        rw [hx] at CO
        have HBND : Hid (3 * ls.length + 2 ≤ 4000) := by show _ ≤ _; have := HLQ.out; omega
        have HGT0 : Hid (∀ l q1, Sp.itemM s.data.toList q = (some l, q1) → q < Sp.blM s.data.toList q1 ∧ Sp.blM s.data.toList q1 ≤ s.size) := fun l q1 h => by
          have h1 := Sp.item_le s.data.toList q (by rw [len_eq]; exact hq)
          rw [h] at h1
          have h2 := h1.2.2 (fun k => nomatch k)
          have h3 := Sp.bl_le s.data.toList q1 h1.2.1
          rw [len_eq] at h3
          have h4 : q < q1 := h2
          omega
        have HIN : Hid (Sp.meantM (Sp.wordM s.data.toList q) = none → Sp.itemM s.data.toList q = (none, q)) := Sp.item_none
        have HIO : Hid (∀ l, Sp.meantM (Sp.wordM s.data.toList q) = some l → parse (Sp.wordM s.data.toList q) = none ∨ Sp.wordM s.data.toList (Sp.blM s.data.toList (q + (Sp.wordM s.data.toList q).length)) ≠ [45] → Sp.itemM s.data.toList q = (some l, Sp.blM s.data.toList (q + (Sp.wordM s.data.toList q).length))) := fun l h1 h2 => Sp.item_one h1 h2
        have HI2 : Hid (∀ l v, Sp.meantM (Sp.wordM s.data.toList q) = some l → parse (Sp.wordM s.data.toList q) = some v → Sp.wordM s.data.toList (Sp.blM s.data.toList (q + (Sp.wordM s.data.toList q).length)) = [45] → Sp.itemM s.data.toList q = Sp.item2 s.data.toList (Sp.blM s.data.toList (q + (Sp.wordM s.data.toList q).length)) v) := fun l v h1 h2 h3 => Sp.item_two h1 h2 h3
        have HPR : Hid (∀ l v, Sp.meantM (Sp.wordM s.data.toList q) = some l → parse (Sp.wordM s.data.toList q) = some v → l = [(some (v, false), some (v, true))] ∧ v.ok = true) := fun l v h1 h2 => Sp.plain_row h1 h2
        have HBL := hide (Sp.bl_idem s.data.toList (q + (Sp.wordM s.data.toList q).length))
        clear hx hwl hbl hxs g4 x4
        generalize Sp.blM s.data.toList (q + (Sp.wordM s.data.toList q).length) = p1 at *
        generalize Sp.meantM (Sp.wordM s.data.toList q) = mo at *
        generalize parse (Sp.wordM s.data.toList q) = po at *
        go_wp2_with fail
        refine CO.out.mono ?_
        intro e w5 h5
        clear CO
        cases mo with
        | none =>
          obtain ⟨rfl, b5⟩ := h5
          have HPM := hide (ST.out.none HC.out (HIN.out rfl))
          replace G := hide (grown_below G.out b5)
          clear b5
          go_wp2_with fail
          refine bodyPost_ret (v := .tuple #[.slice none 0 0, .int .i64 q, .bool false]) (by simp [results, Tryz.results18, go_sem]) rfl ⟨partR_no HPM.out, G.out⟩
        | some l =>
          obtain ⟨al, nl, cl, rfl, sl, b5⟩ := h5
          have SL := hide sl
          replace SA := hide (SA.out.later b5)
          replace HY := hide (HY.out.later b5)
          replace G := hide (grown_below G.out b5)
          clear sl b5
          have cY := HY.out.c
          have j1 : (0 : Int) ≤ (p1 : Int) := by omega
          cases po with
          | none =>
            have HIT := hide (HIO.out l rfl (.inl rfl))
            have HGT := hide (HGT0.out _ _ HIT.out)
            rw [HBL.out] at HGT
            have hps : (none : Option V).isSome = false := rfl
            rw [hps]
            go_wp2_with fail
            go_quiet (fail)
            have bq := belDrewN w5 nq
            replace HY := hide (HY.out.later bq)
            replace SA := hide (SA.out.later bq)
            replace SL := hide (SL.out.later bq)
            replace G := hide (grown_below G.out bq)
            clear bq cY
            generalize w5.drewN nq = w6 at *
            go_wp2_with fail
            refine (rand_sl _ _ _ _ _ _ _ _ _ _ 2 SA.out SL.out HBND.out (by omega)).mono ?_
            rintro e w9 ⟨a9, n9, c9, rfl, h9, b9⟩
            have X9 := hide (HY.out.later b9)
            have G9 := hide (grown_below G.out b9)
            rw [Sp.all_snoc (fun m hm => (HLS.out m hm).1) SL.out.row] at h9
            have HLS9 := hide (mem_snoc HLS.out ⟨SL.out.row, (by have h1 := SL.out.r.n; have h2 := SL.out.le; omega)⟩)
            have S9 := hide (h9.all HLS9.out)
            have ST9 := hide (ST.out.next HC.out HIT.out)
            clear h9 b9
            go_wp2_with fail
            go_roundg (s.size - p1)
            case measure => have := HGT.out; omega
            case rel =>
              have hg := HGT.out
              have hl := HLQ.out
              have hk := HK.out
              refine ⟨p1, f', 0, n9, c9, a9, _, hg.2, rfl, by omega, rfl, (congrArg (Value.int .i64) (by rw [List.length_append, List.length_singleton]; omega)), by rw [List.length_append, List.length_singleton]; omega, rfl, X9, S9, G9, HLS9, (by have h := ST9.out; rw [HBL.out] at h; exact hide h)⟩
          | some v =>
            have hps : (some v).isSome = true := rfl
            rw [hps]
            by_cases he : p1 = s.size
            · have HIT := hide (HIO.out l rfl (.inr (Sp.word_nobar (by rw [List.getElem?_eq_none (by rw [len_eq]; omega)]; exact fun h => nomatch h))))
              have HGT := hide (HGT0.out _ _ HIT.out)
              rw [HBL.out] at HGT
              have m1 : ¬ (p1 : Int) < (s.size : Int) := by omega
              have m2 : decide (p1 < s.size) = false := by simp; omega
              have m3 : decide ((p1 : Int) < (s.size : Int)) = false := by simp; omega
              have HEQ := hide he
              clear he
              go_wp2_with fail
              go_quiet (fail)
              have bq := belDrewN w5 nq
              replace HY := hide (HY.out.later bq)
              replace SA := hide (SA.out.later bq)
              replace SL := hide (SL.out.later bq)
              replace G := hide (grown_below G.out bq)
              clear bq cY
              generalize w5.drewN nq = w6 at *
              go_wp2_with fail
              refine (rand_sl _ _ _ _ _ _ _ _ _ _ 2 SA.out SL.out HBND.out (by omega)).mono ?_
              rintro e w9 ⟨a9, n9, c9, rfl, h9, b9⟩
              have X9 := hide (HY.out.later b9)
              have G9 := hide (grown_below G.out b9)
              rw [Sp.all_snoc (fun m hm => (HLS.out m hm).1) SL.out.row] at h9
              have HLS9 := hide (mem_snoc HLS.out ⟨SL.out.row, (by have h1 := SL.out.r.n; have h2 := SL.out.le; omega)⟩)
              have S9 := hide (h9.all HLS9.out)
              have ST9 := hide (ST.out.next HC.out HIT.out)
              clear h9 b9
              go_wp2_with fail
              go_roundg (s.size - p1)
              case measure => have := HGT.out; omega
              case rel =>
                have hg := HGT.out
                have hl := HLQ.out
                have hk := HK.out
                refine ⟨p1, f', 0, n9, c9, a9, _, hg.2, rfl, by omega, rfl, (congrArg (Value.int .i64) (by rw [List.length_append, List.length_singleton]; omega)), by rw [List.length_append, List.length_singleton]; omega, rfl, X9, S9, G9, HLS9, (by have h := ST9.out; rw [HBL.out] at h; exact hide h)⟩
            · have hps1 : p1 < s.size := by have := HPB.out; omega
              have m1 : (p1 : Int) < (s.size : Int) := by omega
              have hget : s.data.toList[p1]? = some s[p1] := Lib.data_getElem? s p1 hps1
              by_cases hc : s[p1] = 45
              · have HB1 := hide (Sp.word_bar (s := s.data.toList) (p := p1) (by rw [hget, hc]))
                have HG1 : Hid (s.data.toList[p1]? = some 45) := by show _ = _; rw [hget, hc]
                clear he hget
                go_wp2_with fail
                go_quiet (fail)
                have bq := belDrewN w5 nq
                replace HY := hide (HY.out.later bq)
                replace SA := hide (SA.out.later bq)
                replace SL := hide (SL.out.later bq)
                replace G := hide (grown_below G.out bq)
                clear bq cY
                generalize w5.drewN nq = w6 at *
                go_wp2_with fail
                refine (rdword_any R s p1 w6 HY.out HPB.out (by omega)).mono ?_
                rintro e w7 ⟨x2, rfl, hx2, x7, g7⟩
                replace SA := hide (SA.out.far HY.out g7)
                replace SL := hide (SL.out.far HY.out g7)
                replace HY := hide x7
                replace G := hide (grownBy_trans G.out g7 (.inl rfl))
                have HX2 := hide hx2
                have hwl := Sp.word_len s.data.toList p1
                rw [len_eq] at hwl
                have hbl := Sp.bl_le s.data.toList (p1 + (Sp.wordM s.data.toList p1).length) (by rw [len_eq]; omega)
                rw [len_eq] at hbl
                have HP2B : Hid (Sp.blM s.data.toList (p1 + (Sp.wordM s.data.toList p1).length) ≤ s.size) := hbl.2
                have HP2E : Hid (Sp.wordM s.data.toList p1 = [45] → Sp.blM s.data.toList (p1 + 1) = Sp.blM s.data.toList (p1 + (Sp.wordM s.data.toList p1).length)) := fun h => by rw [h]; rfl
                clear hx2 x7 g7 hwl hbl hc
                generalize Sp.blM s.data.toList (p1 + (Sp.wordM s.data.toList p1).length) = p2 at *
                go_wp2_with fail
                refine (rdword_any R s p2 w7 HY.out HP2B.out (by omega)).mono ?_
                rintro e w8 ⟨x3, rfl, hx3, x8, g8⟩
                replace SA := hide (SA.out.far HY.out g8)
                replace SL := hide (SL.out.far HY.out g8)
                replace HY := hide x8
                replace G := hide (grownBy_trans G.out g8 (.inl rfl))
                have hwl := Sp.word_len s.data.toList p2
                rw [len_eq] at hwl
                have hx3s : x3.size ≤ 4000 := by rw [← len_eq, hx3]; omega
                have CP3 := hide (rparse_any x3 w8 hx3s)
                rw [hx3] at CP3
                have H2N : Hid (Sp.wordM s.data.toList p1 = [45] → parse (Sp.wordM s.data.toList p2) = none → Sp.item2 s.data.toList p1 v = (none, p2)) := fun h1 h2 => by unfold Sp.item2; rw [HP2E.out h1, h2]
                have H2S : Hid (∀ u, Sp.wordM s.data.toList p1 = [45] → parse (Sp.wordM s.data.toList p2) = some u → Sp.item2 s.data.toList p1 v = (some (Sp.only Sp.cmpC (some (v, false)) (some (u, true))), p2 + (Sp.wordM s.data.toList p2).length)) := fun u h1 h2 => by unfold Sp.item2; rw [HP2E.out h1, h2]
                have HUO : Hid (∀ u, parse (Sp.wordM s.data.toList p2) = some u → u.ok = true) := fun u h => (parse_some h).1
                generalize hP3 : Sp.blM s.data.toList (p2 + (Sp.wordM s.data.toList p2).length) = p3 at *
                have HP3E := hide hP3
                clear hx3 x8 g8 hwl hx3s hP3
                generalize parse (Sp.wordM s.data.toList p2) = po3 at *
                go_wp2_with fail
                refine CP3.out.mono ?_
                rintro e w10 ⟨rfl, b10⟩
                replace SA := hide (SA.out.later b10)
                replace SL := hide (SL.out.later b10)
                replace HY := hide (HY.out.later b10)
                replace G := hide (grown_below G.out b10)
                clear b10 CP3
                have i45 : (0 : Int) ≤ (p2 : Int) := by omega
                cases po3 with
                | none =>
                  unfold pret
                  replace G := hide (grown_below G.out (show RowKit.Below w10.heap.size w10 (w10.alloc (.cells #[.int .i64 0, .int .i64 0, .int .i64 0, .string ⟨#[]⟩] 37)) from (by repeat (first | with_reducible assumption | with_reducible exact Below.refl _ _ | with_reducible refine Below.setCell ?_ (by first | exact Nat.le_refl _ | (simp; done) | (simp; omega)) _ | with_reducible refine bal ?_ _ | with_reducible refine Below.alloc ?_ (by first | exact Nat.le_refl _ | (simp; done) | (simp; omega)) _ | with_reducible refine Below.drew ?_))))
                  by_cases hdd : Sp.wordM s.data.toList p1 = [45]
                  · have hxd : (x2.toList == [45]) = true := by rw [toList_data, HX2.out, hdd]; rfl
                    have hxd2 : (!x2.toList == [45]) = false := by rw [hxd]; rfl
                    have HIT := hide (HI2.out l v rfl rfl hdd)
                    rw [H2N.out hdd rfl] at HIT
                    have HPM := hide (ST.out.none HC.out HIT.out)
                    clear HIT hdd
                    go_wp2_with fail
                    refine bodyPost_ret (v := .tuple #[.slice none 0 0, .int .i64 p2, .bool false]) (by simp [results, Tryz.results18, go_sem]) rfl ⟨partR_no HPM.out, G.out⟩
                  · skip
                    have hxd : (x2.toList == [45]) = false := by rw [toList_data, HX2.out]; simpa using hdd
                    have hxd2 : (!x2.toList == [45]) = true := by rw [hxd]; rfl
                    have HIT := hide (HIO.out l rfl (.inr hdd))
                    have HGT := hide (HGT0.out _ _ HIT.out)
                    rw [HBL.out] at HGT
                    have HPM : Hid (pm = (none, p1)) := by
                      have h := ST.out.next HC.out HIT.out
                      rw [HBL.out] at h
                      have hg := HGT.out
                      obtain ⟨f2, rfl⟩ : ∃ f2, f' = f2 + 1 := ⟨f' - 1, by omega⟩
                      obtain ⟨tt, htt⟩ := HB1.out
                      refine h.none ?_ (Sp.item_none (by rw [htt]; exact Sp.meant_bar tt))
                      rintro ⟨_, h1 | h1⟩
                      · rw [len_eq] at h1; omega
                      · rw [HG1.out] at h1; exact absurd (Option.some.inj h1) (by decide)
                    clear HIT HGT hdd
                    go_wp2_with fail
                    refine bodyPost_ret (v := .tuple #[.slice none 0 0, .int .i64 p1, .bool false]) (by simp [results, Tryz.results18, go_sem]) rfl ⟨partR_no HPM.out, G.out⟩
                | some u =>
                  unfold pret
                  by_cases hdd : Sp.wordM s.data.toList p1 = [45]
                  · have hxd : (x2.toList == [45]) = true := by rw [toList_data, HX2.out, hdd]; rfl
                    have hxd2 : (!x2.toList == [45]) = false := by rw [hxd]; rfl
                    have HIT := hide (HI2.out l v rfl rfl hdd)
                    rw [H2S.out u hdd rfl] at HIT
                    have HGT := hide (HGT0.out _ _ HIT.out)
                    rw [HP3E.out] at HGT
                    have hpr := HPR.out l v rfl rfl
                    have HVO := hide hpr.2
                    have huo := HUO.out u rfl
                    have HOS : Hid (Sp.okL [((some (v, false), some (u, true)) : Sp.S)]) := Sp.ok_l1 ⟨⟨_, rfl⟩, Sp.ok_v hpr.2 false, Sp.ok_v huo true⟩
                    have HRO : Hid (Sp.Row (Sp.only Sp.cmpC (some (v, false)) (some (u, true))) ∧ (Sp.only Sp.cmpC (some (v, false)) (some (u, true))).length ≤ 2) := ⟨Sp.row_only (Sp.ok_v hpr.2 false) (Sp.ok_v huo true), Nat.le_trans (only_len _ _) (by omega)⟩
                    rw [hpr.1] at SL
                    have hnl : nl = 1 := SL.out.r.n.symm
                    subst hnl
                    obtain ⟨lb, lo, rfl⟩ := SL.out.r.spot (by omega)
                    have bA : RowKit.Below w10.heap.size w10 (w10.alloc (.cells #[.int .i64 u.a, .int .i64 u.b, .int .i64 u.c, .string u.p] 37)) := (by repeat (first | with_reducible assumption | with_reducible exact Below.refl _ _ | with_reducible refine Below.setCell ?_ (by first | exact Nat.le_refl _ | (simp; done) | (simp; omega)) _ | with_reducible refine bal ?_ _ | with_reducible refine Below.alloc ?_ (by first | exact Nat.le_refl _ | (simp; done) | (simp; omega)) _ | with_reducible refine Below.drew ?_))
                    have XU := (Box.new w10 #[.int .i64 u.a, .int .i64 u.b, .int .i64 u.c, .string u.p] 37)
                    have KL := fun w' (h : RowKit.Below (w10.alloc (.cells #[.int .i64 u.a, .int .i64 u.b, .int .i64 u.c, .string u.p] 37)).heap.size (w10.alloc (.cells #[.int .i64 u.a, .int .i64 u.b, .int .i64 u.c, .string u.p] 37)) w') => ES_at (SL.out.r.later (step bA h)) 0 (some (v, false), some (v, true)) rfl
                    simp only [Nat.zero_mul, Nat.add_zero] at KL
                    have d0 : ∀ w', RowKit.Below (w10.alloc (.cells #[.int .i64 u.a, .int .i64 u.b, .int .i64 u.c, .string u.p] 37)).heap.size (w10.alloc (.cells #[.int .i64 u.a, .int .i64 u.b, .int .i64 u.c, .string u.p] 37)) w' → w'.cell? ⟨lb, lo, none⟩ = some (.int .i64 v.a) := fun w' h => (KL w' h).1
                    have d1 : ∀ w', RowKit.Below (w10.alloc (.cells #[.int .i64 u.a, .int .i64 u.b, .int .i64 u.c, .string u.p] 37)).heap.size (w10.alloc (.cells #[.int .i64 u.a, .int .i64 u.b, .int .i64 u.c, .string u.p] 37)) w' → w'.cell? ⟨lb, lo + 1, none⟩ = some (.int .i64 v.b) := fun w' h => (KL w' h).2.1
                    have d2 : ∀ w', RowKit.Below (w10.alloc (.cells #[.int .i64 u.a, .int .i64 u.b, .int .i64 u.c, .string u.p] 37)).heap.size (w10.alloc (.cells #[.int .i64 u.a, .int .i64 u.b, .int .i64 u.c, .string u.p] 37)) w' → w'.cell? ⟨lb, lo + 2, none⟩ = some (.int .i64 v.c) := fun w' h => (KL w' h).2.2.1
                    have d3 : ∀ w', RowKit.Below (w10.alloc (.cells #[.int .i64 u.a, .int .i64 u.b, .int .i64 u.c, .string u.p] 37)).heap.size (w10.alloc (.cells #[.int .i64 u.a, .int .i64 u.b, .int .i64 u.c, .string u.p] 37)) w' → w'.cell? ⟨lb, lo + 3, none⟩ = some (.string v.p) := fun w' h => (KL w' h).2.2.2.1
                    have KU : ∀ w', RowKit.Below (w10.alloc (.cells #[.int .i64 u.a, .int .i64 u.b, .int .i64 u.c, .string u.p] 37)).heap.size (w10.alloc (.cells #[.int .i64 u.a, .int .i64 u.b, .int .i64 u.c, .string u.p] 37)) w' → ∀ i, w'.cell? ⟨w10.heap.size, i, none⟩ = (#[.int .i64 u.a, .int .i64 u.b, .int .i64 u.c, .string u.p] : Array Value)[i]? := fun w' h => (XU.later h).c
                    replace SA := hide (SA.out.later bA)
                    replace HY := hide (HY.out.later bA)
                    replace G := hide (grown_below G.out bA)
                    clear KL XU bA SL hpr huo hdd HI2 HIO HIN HPR H2N H2S HUO HGT0
                    go_wp2_with fail
                    generalize w10.alloc (.cells #[.int .i64 u.a, .int .i64 u.b, .int .i64 u.c, .string u.p] 37) = W9 at *
                    go_region_held3 (fun w' => RowKit.Below W9.heap.size W9 w') (first | with_reducible assumption | exact (by repeat (first | with_reducible assumption | with_reducible exact Below.refl _ _ | with_reducible refine Below.setCell ?_ (by first | exact Nat.le_refl _ | (simp; done) | (simp; omega)) _ | with_reducible refine bal ?_ _ | with_reducible refine Below.alloc ?_ (by first | exact Nat.le_refl _ | (simp; done) | (simp; omega)) _ | with_reducible refine Below.drew ?_))) (first
                      | (go_at_call 48; refine (rnormL _ (some ⟨W9.heap.size, 0, none⟩) 1 1 [((some (v, false), some (u, true)) : Sp.S)] (by exact ERow.newAt W9.drew (some (v, false), some (u, true)) _ _ (by simp)) (by omega) HOS.out).mono ?_; rintro e w11 ⟨v11, rfl, o11, b11⟩; have b11 : RowKit.Below W9.heap.size W9 w11 := (by refine Below.trans ?_ (Below.mono b11 ?_); rotate_left; exact Below.size (by with_reducible assumption); with_reducible assumption)))
                    rw [Sp.nrm_one] at o11
                    obtain ⟨al2, nl2, cl2, rfl, sl2⟩ := SR.of (B := 2) o11 HRO.out.1 HRO.out.2
                    have SL := hide sl2
                    replace SA := hide (SA.out.later b11)
                    replace HY := hide (HY.out.later b11)
                    replace G := hide (grown_below G.out b11)
                    clear sl2 o11 b11 d0 d1 d2 d3 KU
                    go_wp2_with fail
                    refine (rand_sl _ _ _ _ _ _ _ _ _ _ 2 SA.out SL.out HBND.out (by omega)).mono ?_
                    rintro e w9 ⟨a9, n9, c9, rfl, h9, b9⟩
                    have X9 := hide (HY.out.later b9)
                    have G9 := hide (grown_below G.out b9)
                    rw [Sp.all_snoc (fun m hm => (HLS.out m hm).1) SL.out.row] at h9
                    have HLS9 := hide (mem_snoc HLS.out ⟨SL.out.row, (by have h1 := SL.out.r.n; have h2 := SL.out.le; omega)⟩)
                    have S9 := hide (h9.all HLS9.out)
                    have ST9 := hide (ST.out.next HC.out HIT.out)
                    clear h9 b9
                    go_wp2_with fail
                    go_roundg (s.size - p3)
                    case measure => have := HGT.out; omega
                    case rel =>
                      have hg := HGT.out
                      have hl := HLQ.out
                      have hk := HK.out
                      refine ⟨p3, f', 0, n9, c9, a9, _, hg.2, rfl, by omega, rfl, (congrArg (Value.int .i64) (by rw [List.length_append, List.length_singleton]; omega)), by rw [List.length_append, List.length_singleton]; omega, rfl, X9, S9, G9, HLS9, (by have h := ST9.out; rw [HP3E.out] at h; exact hide h)⟩
                  · replace G := hide (grown_below G.out (show RowKit.Below w10.heap.size w10 (w10.alloc (.cells #[.int .i64 u.a, .int .i64 u.b, .int .i64 u.c, .string u.p] 37)) from (by repeat (first | with_reducible assumption | with_reducible exact Below.refl _ _ | with_reducible refine Below.setCell ?_ (by first | exact Nat.le_refl _ | (simp; done) | (simp; omega)) _ | with_reducible refine bal ?_ _ | with_reducible refine Below.alloc ?_ (by first | exact Nat.le_refl _ | (simp; done) | (simp; omega)) _ | with_reducible refine Below.drew ?_))))
                    have hxd : (x2.toList == [45]) = false := by rw [toList_data, HX2.out]; simpa using hdd
                    have hxd2 : (!x2.toList == [45]) = true := by rw [hxd]; rfl
                    have HIT := hide (HIO.out l rfl (.inr hdd))
                    have HGT := hide (HGT0.out _ _ HIT.out)
                    rw [HBL.out] at HGT
                    have HPM : Hid (pm = (none, p1)) := by
                      have h := ST.out.next HC.out HIT.out
                      rw [HBL.out] at h
                      have hg := HGT.out
                      obtain ⟨f2, rfl⟩ : ∃ f2, f' = f2 + 1 := ⟨f' - 1, by omega⟩
                      obtain ⟨tt, htt⟩ := HB1.out
                      refine h.none ?_ (Sp.item_none (by rw [htt]; exact Sp.meant_bar tt))
                      rintro ⟨_, h1 | h1⟩
                      · rw [len_eq] at h1; omega
                      · rw [HG1.out] at h1; exact absurd (Option.some.inj h1) (by decide)
                    clear HIT HGT hdd
                    go_wp2_with fail
                    refine bodyPost_ret (v := .tuple #[.slice none 0 0, .int .i64 p1, .bool false]) (by simp [results, Tryz.results18, go_sem]) rfl ⟨partR_no HPM.out, G.out⟩
              · have HIT := hide (HIO.out l rfl (.inr (Sp.word_nobar (by rw [hget]; exact fun h => hc (Option.some.inj h)))))
                have HGT := hide (HGT0.out _ _ HIT.out)
                rw [HBL.out] at HGT
                have hne : ((s[p1].toNat : Int) == 45) = false := by
                  have : ¬ s[p1].toNat = 45 := fun h => hc (UInt8.toNat_inj.1 h)
                  simpa using (by omega : ¬ (s[p1].toNat : Int) = 45)
                have hne2 : ¬ (s[p1].toNat : Int) = 45 := by simpa using hne
                clear he hget hc
                go_wp2_with fail
                go_quiet (fail)
                have bq := belDrewN w5 nq
                replace HY := hide (HY.out.later bq)
                replace SA := hide (SA.out.later bq)
                replace SL := hide (SL.out.later bq)
                replace G := hide (grown_below G.out bq)
                clear bq cY
                generalize w5.drewN nq = w6 at *
                go_wp2_with fail
                refine (rand_sl _ _ _ _ _ _ _ _ _ _ 2 SA.out SL.out HBND.out (by omega)).mono ?_
                rintro e w9 ⟨a9, n9, c9, rfl, h9, b9⟩
                have X9 := hide (HY.out.later b9)
                have G9 := hide (grown_below G.out b9)
                rw [Sp.all_snoc (fun m hm => (HLS.out m hm).1) SL.out.row] at h9
                have HLS9 := hide (mem_snoc HLS.out ⟨SL.out.row, (by have h1 := SL.out.r.n; have h2 := SL.out.le; omega)⟩)
                have S9 := hide (h9.all HLS9.out)
                have ST9 := hide (ST.out.next HC.out HIT.out)
                clear h9 b9
                go_wp2_with fail
                go_roundg (s.size - p1)
                case measure => have := HGT.out; omega
                case rel =>
                  have hg := HGT.out
                  have hl := HLQ.out
                  have hk := HK.out
                  refine ⟨p1, f', 0, n9, c9, a9, _, hg.2, rfl, by omega, rfl, (congrArg (Value.int .i64) (by rw [List.length_append, List.length_singleton]; omega)), by rw [List.length_append, List.length_singleton]; omega, rfl, X9, S9, G9, HLS9, (by have h := ST9.out; rw [HBL.out] at h; exact hide h)⟩
      · have dk : decide (0 < K) = true := decide_eq_true k0
        have i2 : (q : Int) < (s.size : Int) := by omega
        have n2 : ¬ s.size ≤ q := by omega
        have n3 : decide (s.size ≤ q) = false := decide_eq_false n2
        have hne : ((s[q].toNat : Int) == 124) = false := by
          have : ¬ s[q].toNat = 124 := fun h => hc (UInt8.toNat_inj.1 h)
          simpa using (by omega : ¬ (s[q].toNat : Int) = 124)
        have hne2 : ¬ (s[q].toNat : Int) = 124 := by simpa using hne
        clear hc
        go_wp2_with fail
        go_quiet (fail)
        have bq := belDrewN wr nq
        replace HY := hide (HY.out.later bq)
        replace SA := hide (SA.out.later bq)
        replace G := hide (grown_below G.out bq)
        clear bq cY
        generalize wr.drewN nq = w3 at *
        clear dk hne hne2 n2 n3
        go_wp2_with fail
        refine (rdword_any R s q w3 HY.out hq (by omega)).mono ?_
        rintro e w4 ⟨x, rfl, hx, x4, g4⟩
        replace SA := hide (SA.out.far HY.out g4)
        replace HY := hide x4
        replace G := hide (grownBy_trans G.out g4 (.inl rfl))
        have hwl := Sp.word_len s.data.toList q
        rw [len_eq] at hwl
        have hbl := Sp.bl_le s.data.toList (q + (Sp.wordM s.data.toList q).length) (by rw [len_eq]; omega)
        rw [len_eq] at hbl
        have hxs : x.size ≤ 4000 := by rw [← len_eq, hx]; omega
        have HPB : Hid (Sp.blM s.data.toList (q + (Sp.wordM s.data.toList q).length) ≤ s.size) := hbl.2
        have CO := hide (rone_any x w4 hxs)
        rw [hx] at CO
        have HBND : Hid (3 * ls.length + 2 ≤ 4000) := by show _ ≤ _; have := HLQ.out; omega
        have HGT0 : Hid (∀ l q1, Sp.itemM s.data.toList q = (some l, q1) → q < Sp.blM s.data.toList q1 ∧ Sp.blM s.data.toList q1 ≤ s.size) := fun l q1 h => by
          have h1 := Sp.item_le s.data.toList q (by rw [len_eq]; exact hq)
          rw [h] at h1
          have h2 := h1.2.2 (fun k => nomatch k)
          have h3 := Sp.bl_le s.data.toList q1 h1.2.1
          rw [len_eq] at h3
          have h4 : q < q1 := h2
          omega
        have HIN : Hid (Sp.meantM (Sp.wordM s.data.toList q) = none → Sp.itemM s.data.toList q = (none, q)) := Sp.item_none
        have HIO : Hid (∀ l, Sp.meantM (Sp.wordM s.data.toList q) = some l → parse (Sp.wordM s.data.toList q) = none ∨ Sp.wordM s.data.toList (Sp.blM s.data.toList (q + (Sp.wordM s.data.toList q).length)) ≠ [45] → Sp.itemM s.data.toList q = (some l, Sp.blM s.data.toList (q + (Sp.wordM s.data.toList q).length))) := fun l h1 h2 => Sp.item_one h1 h2
        have HI2 : Hid (∀ l v, Sp.meantM (Sp.wordM s.data.toList q) = some l → parse (Sp.wordM s.data.toList q) = some v → Sp.wordM s.data.toList (Sp.blM s.data.toList (q + (Sp.wordM s.data.toList q).length)) = [45] → Sp.itemM s.data.toList q = Sp.item2 s.data.toList (Sp.blM s.data.toList (q + (Sp.wordM s.data.toList q).length)) v) := fun l v h1 h2 h3 => Sp.item_two h1 h2 h3
        have HPR : Hid (∀ l v, Sp.meantM (Sp.wordM s.data.toList q) = some l → parse (Sp.wordM s.data.toList q) = some v → l = [(some (v, false), some (v, true))] ∧ v.ok = true) := fun l v h1 h2 => Sp.plain_row h1 h2
        have HBL := hide (Sp.bl_idem s.data.toList (q + (Sp.wordM s.data.toList q).length))
        clear hx hwl hbl hxs g4 x4
        generalize Sp.blM s.data.toList (q + (Sp.wordM s.data.toList q).length) = p1 at *
        generalize Sp.meantM (Sp.wordM s.data.toList q) = mo at *
        generalize parse (Sp.wordM s.data.toList q) = po at *
        go_wp2_with fail
        refine CO.out.mono ?_
        intro e w5 h5
        clear CO
        cases mo with
        | none =>
          obtain ⟨rfl, b5⟩ := h5
          have HPM := hide (ST.out.none HC.out (HIN.out rfl))
          replace G := hide (grown_below G.out b5)
          clear b5
          go_wp2_with fail
          refine bodyPost_ret (v := .tuple #[.slice none 0 0, .int .i64 q, .bool false]) (by simp [results, Tryz.results18, go_sem]) rfl ⟨partR_no HPM.out, G.out⟩
        | some l =>
          obtain ⟨al, nl, cl, rfl, sl, b5⟩ := h5
          have SL := hide sl
          replace SA := hide (SA.out.later b5)
          replace HY := hide (HY.out.later b5)
          replace G := hide (grown_below G.out b5)
          clear sl b5
          have cY := HY.out.c
          have j1 : (0 : Int) ≤ (p1 : Int) := by omega
          cases po with
          | none =>
            have HIT := hide (HIO.out l rfl (.inl rfl))
            have HGT := hide (HGT0.out _ _ HIT.out)
            rw [HBL.out] at HGT
            have hps : (none : Option V).isSome = false := rfl
            rw [hps]
            go_wp2_with fail
            go_quiet (fail)
            have bq := belDrewN w5 nq
            replace HY := hide (HY.out.later bq)
            replace SA := hide (SA.out.later bq)
            replace SL := hide (SL.out.later bq)
            replace G := hide (grown_below G.out bq)
            clear bq cY
            generalize w5.drewN nq = w6 at *
            go_wp2_with fail
            refine (rand_sl _ _ _ _ _ _ _ _ _ _ 2 SA.out SL.out HBND.out (by omega)).mono ?_
            rintro e w9 ⟨a9, n9, c9, rfl, h9, b9⟩
            have X9 := hide (HY.out.later b9)
            have G9 := hide (grown_below G.out b9)
            rw [Sp.all_snoc (fun m hm => (HLS.out m hm).1) SL.out.row] at h9
            have HLS9 := hide (mem_snoc HLS.out ⟨SL.out.row, (by have h1 := SL.out.r.n; have h2 := SL.out.le; omega)⟩)
            have S9 := hide (h9.all HLS9.out)
            have ST9 := hide (ST.out.next HC.out HIT.out)
            clear h9 b9
            go_wp2_with fail
            go_roundg (s.size - p1)
            case measure => have := HGT.out; omega
            case rel =>
              have hg := HGT.out
              have hl := HLQ.out
              have hk := HK.out
              refine ⟨p1, f', 0, n9, c9, a9, _, hg.2, rfl, by omega, rfl, (congrArg (Value.int .i64) (by rw [List.length_append, List.length_singleton]; omega)), by rw [List.length_append, List.length_singleton]; omega, rfl, X9, S9, G9, HLS9, (by have h := ST9.out; rw [HBL.out] at h; exact hide h)⟩
          | some v =>
            have hps : (some v).isSome = true := rfl
            rw [hps]
            by_cases he : p1 = s.size
            · have HIT := hide (HIO.out l rfl (.inr (Sp.word_nobar (by rw [List.getElem?_eq_none (by rw [len_eq]; omega)]; exact fun h => nomatch h))))
              have HGT := hide (HGT0.out _ _ HIT.out)
              rw [HBL.out] at HGT
              have m1 : ¬ (p1 : Int) < (s.size : Int) := by omega
              have m2 : decide (p1 < s.size) = false := by simp; omega
              have m3 : decide ((p1 : Int) < (s.size : Int)) = false := by simp; omega
              have HEQ := hide he
              clear he
              go_wp2_with fail
              go_quiet (fail)
              have bq := belDrewN w5 nq
              replace HY := hide (HY.out.later bq)
              replace SA := hide (SA.out.later bq)
              replace SL := hide (SL.out.later bq)
              replace G := hide (grown_below G.out bq)
              clear bq cY
              generalize w5.drewN nq = w6 at *
              go_wp2_with fail
              refine (rand_sl _ _ _ _ _ _ _ _ _ _ 2 SA.out SL.out HBND.out (by omega)).mono ?_
              rintro e w9 ⟨a9, n9, c9, rfl, h9, b9⟩
              have X9 := hide (HY.out.later b9)
              have G9 := hide (grown_below G.out b9)
              rw [Sp.all_snoc (fun m hm => (HLS.out m hm).1) SL.out.row] at h9
              have HLS9 := hide (mem_snoc HLS.out ⟨SL.out.row, (by have h1 := SL.out.r.n; have h2 := SL.out.le; omega)⟩)
              have S9 := hide (h9.all HLS9.out)
              have ST9 := hide (ST.out.next HC.out HIT.out)
              clear h9 b9
              go_wp2_with fail
              go_roundg (s.size - p1)
              case measure => have := HGT.out; omega
              case rel =>
                have hg := HGT.out
                have hl := HLQ.out
                have hk := HK.out
                refine ⟨p1, f', 0, n9, c9, a9, _, hg.2, rfl, by omega, rfl, (congrArg (Value.int .i64) (by rw [List.length_append, List.length_singleton]; omega)), by rw [List.length_append, List.length_singleton]; omega, rfl, X9, S9, G9, HLS9, (by have h := ST9.out; rw [HBL.out] at h; exact hide h)⟩
            · have hps1 : p1 < s.size := by have := HPB.out; omega
              have m1 : (p1 : Int) < (s.size : Int) := by omega
              have hget : s.data.toList[p1]? = some s[p1] := Lib.data_getElem? s p1 hps1
              by_cases hc : s[p1] = 45
              · have HB1 := hide (Sp.word_bar (s := s.data.toList) (p := p1) (by rw [hget, hc]))
                have HG1 : Hid (s.data.toList[p1]? = some 45) := by show _ = _; rw [hget, hc]
                clear he hget
                go_wp2_with fail
                go_quiet (fail)
                have bq := belDrewN w5 nq
                replace HY := hide (HY.out.later bq)
                replace SA := hide (SA.out.later bq)
                replace SL := hide (SL.out.later bq)
                replace G := hide (grown_below G.out bq)
                clear bq cY
                generalize w5.drewN nq = w6 at *
                go_wp2_with fail
                refine (rdword_any R s p1 w6 HY.out HPB.out (by omega)).mono ?_
                rintro e w7 ⟨x2, rfl, hx2, x7, g7⟩
                replace SA := hide (SA.out.far HY.out g7)
                replace SL := hide (SL.out.far HY.out g7)
                replace HY := hide x7
                replace G := hide (grownBy_trans G.out g7 (.inl rfl))
                have HX2 := hide hx2
                have hwl := Sp.word_len s.data.toList p1
                rw [len_eq] at hwl
                have hbl := Sp.bl_le s.data.toList (p1 + (Sp.wordM s.data.toList p1).length) (by rw [len_eq]; omega)
                rw [len_eq] at hbl
                have HP2B : Hid (Sp.blM s.data.toList (p1 + (Sp.wordM s.data.toList p1).length) ≤ s.size) := hbl.2
                have HP2E : Hid (Sp.wordM s.data.toList p1 = [45] → Sp.blM s.data.toList (p1 + 1) = Sp.blM s.data.toList (p1 + (Sp.wordM s.data.toList p1).length)) := fun h => by rw [h]; rfl
                clear hx2 x7 g7 hwl hbl hc
                generalize Sp.blM s.data.toList (p1 + (Sp.wordM s.data.toList p1).length) = p2 at *
                go_wp2_with fail
                refine (rdword_any R s p2 w7 HY.out HP2B.out (by omega)).mono ?_
                rintro e w8 ⟨x3, rfl, hx3, x8, g8⟩
                replace SA := hide (SA.out.far HY.out g8)
                replace SL := hide (SL.out.far HY.out g8)
                replace HY := hide x8
                replace G := hide (grownBy_trans G.out g8 (.inl rfl))
                have hwl := Sp.word_len s.data.toList p2
                rw [len_eq] at hwl
                have hx3s : x3.size ≤ 4000 := by rw [← len_eq, hx3]; omega
                have CP3 := hide (rparse_any x3 w8 hx3s)
                rw [hx3] at CP3
                have H2N : Hid (Sp.wordM s.data.toList p1 = [45] → parse (Sp.wordM s.data.toList p2) = none → Sp.item2 s.data.toList p1 v = (none, p2)) := fun h1 h2 => by unfold Sp.item2; rw [HP2E.out h1, h2]
                have H2S : Hid (∀ u, Sp.wordM s.data.toList p1 = [45] → parse (Sp.wordM s.data.toList p2) = some u → Sp.item2 s.data.toList p1 v = (some (Sp.only Sp.cmpC (some (v, false)) (some (u, true))), p2 + (Sp.wordM s.data.toList p2).length)) := fun u h1 h2 => by unfold Sp.item2; rw [HP2E.out h1, h2]
                have HUO : Hid (∀ u, parse (Sp.wordM s.data.toList p2) = some u → u.ok = true) := fun u h => (parse_some h).1
                generalize hP3 : Sp.blM s.data.toList (p2 + (Sp.wordM s.data.toList p2).length) = p3 at *
                have HP3E := hide hP3
                clear hx3 x8 g8 hwl hx3s hP3
                generalize parse (Sp.wordM s.data.toList p2) = po3 at *
                go_wp2_with fail
                refine CP3.out.mono ?_
                rintro e w10 ⟨rfl, b10⟩
                replace SA := hide (SA.out.later b10)
                replace SL := hide (SL.out.later b10)
                replace HY := hide (HY.out.later b10)
                replace G := hide (grown_below G.out b10)
                clear b10 CP3
                have i45 : (0 : Int) ≤ (p2 : Int) := by omega
                cases po3 with
                | none =>
                  unfold pret
                  replace G := hide (grown_below G.out (show RowKit.Below w10.heap.size w10 (w10.alloc (.cells #[.int .i64 0, .int .i64 0, .int .i64 0, .string ⟨#[]⟩] 37)) from (by repeat (first | with_reducible assumption | with_reducible exact Below.refl _ _ | with_reducible refine Below.setCell ?_ (by first | exact Nat.le_refl _ | (simp; done) | (simp; omega)) _ | with_reducible refine bal ?_ _ | with_reducible refine Below.alloc ?_ (by first | exact Nat.le_refl _ | (simp; done) | (simp; omega)) _ | with_reducible refine Below.drew ?_))))
                  by_cases hdd : Sp.wordM s.data.toList p1 = [45]
                  · have hxd : (x2.toList == [45]) = true := by rw [toList_data, HX2.out, hdd]; rfl
                    have hxd2 : (!x2.toList == [45]) = false := by rw [hxd]; rfl
                    have HIT := hide (HI2.out l v rfl rfl hdd)
                    rw [H2N.out hdd rfl] at HIT
                    have HPM := hide (ST.out.none HC.out HIT.out)
                    clear HIT hdd
                    go_wp2_with fail
                    refine bodyPost_ret (v := .tuple #[.slice none 0 0, .int .i64 p2, .bool false]) (by simp [results, Tryz.results18, go_sem]) rfl ⟨partR_no HPM.out, G.out⟩
                  · skip
                    have hxd : (x2.toList == [45]) = false := by rw [toList_data, HX2.out]; simpa using hdd
                    have hxd2 : (!x2.toList == [45]) = true := by rw [hxd]; rfl
                    have HIT := hide (HIO.out l rfl (.inr hdd))
                    have HGT := hide (HGT0.out _ _ HIT.out)
                    rw [HBL.out] at HGT
                    have HPM : Hid (pm = (none, p1)) := by
                      have h := ST.out.next HC.out HIT.out
                      rw [HBL.out] at h
                      have hg := HGT.out
                      obtain ⟨f2, rfl⟩ : ∃ f2, f' = f2 + 1 := ⟨f' - 1, by omega⟩
                      obtain ⟨tt, htt⟩ := HB1.out
                      refine h.none ?_ (Sp.item_none (by rw [htt]; exact Sp.meant_bar tt))
                      rintro ⟨_, h1 | h1⟩
                      · rw [len_eq] at h1; omega
                      · rw [HG1.out] at h1; exact absurd (Option.some.inj h1) (by decide)
                    clear HIT HGT hdd
                    go_wp2_with fail
                    refine bodyPost_ret (v := .tuple #[.slice none 0 0, .int .i64 p1, .bool false]) (by simp [results, Tryz.results18, go_sem]) rfl ⟨partR_no HPM.out, G.out⟩
                | some u =>
                  unfold pret
                  by_cases hdd : Sp.wordM s.data.toList p1 = [45]
                  · have hxd : (x2.toList == [45]) = true := by rw [toList_data, HX2.out, hdd]; rfl
                    have hxd2 : (!x2.toList == [45]) = false := by rw [hxd]; rfl
                    have HIT := hide (HI2.out l v rfl rfl hdd)
                    rw [H2S.out u hdd rfl] at HIT
                    have HGT := hide (HGT0.out _ _ HIT.out)
                    rw [HP3E.out] at HGT
                    have hpr := HPR.out l v rfl rfl
                    have HVO := hide hpr.2
                    have huo := HUO.out u rfl
                    have HOS : Hid (Sp.okL [((some (v, false), some (u, true)) : Sp.S)]) := Sp.ok_l1 ⟨⟨_, rfl⟩, Sp.ok_v hpr.2 false, Sp.ok_v huo true⟩
                    have HRO : Hid (Sp.Row (Sp.only Sp.cmpC (some (v, false)) (some (u, true))) ∧ (Sp.only Sp.cmpC (some (v, false)) (some (u, true))).length ≤ 2) := ⟨Sp.row_only (Sp.ok_v hpr.2 false) (Sp.ok_v huo true), Nat.le_trans (only_len _ _) (by omega)⟩
                    rw [hpr.1] at SL
                    have hnl : nl = 1 := SL.out.r.n.symm
                    subst hnl
                    obtain ⟨lb, lo, rfl⟩ := SL.out.r.spot (by omega)
                    have bA : RowKit.Below w10.heap.size w10 (w10.alloc (.cells #[.int .i64 u.a, .int .i64 u.b, .int .i64 u.c, .string u.p] 37)) := (by repeat (first | with_reducible assumption | with_reducible exact Below.refl _ _ | with_reducible refine Below.setCell ?_ (by first | exact Nat.le_refl _ | (simp; done) | (simp; omega)) _ | with_reducible refine bal ?_ _ | with_reducible refine Below.alloc ?_ (by first | exact Nat.le_refl _ | (simp; done) | (simp; omega)) _ | with_reducible refine Below.drew ?_))
                    have XU := (Box.new w10 #[.int .i64 u.a, .int .i64 u.b, .int .i64 u.c, .string u.p] 37)
                    have KL := fun w' (h : RowKit.Below (w10.alloc (.cells #[.int .i64 u.a, .int .i64 u.b, .int .i64 u.c, .string u.p] 37)).heap.size (w10.alloc (.cells #[.int .i64 u.a, .int .i64 u.b, .int .i64 u.c, .string u.p] 37)) w') => ES_at (SL.out.r.later (step bA h)) 0 (some (v, false), some (v, true)) rfl
                    simp only [Nat.zero_mul, Nat.add_zero] at KL
                    have d0 : ∀ w', RowKit.Below (w10.alloc (.cells #[.int .i64 u.a, .int .i64 u.b, .int .i64 u.c, .string u.p] 37)).heap.size (w10.alloc (.cells #[.int .i64 u.a, .int .i64 u.b, .int .i64 u.c, .string u.p] 37)) w' → w'.cell? ⟨lb, lo, none⟩ = some (.int .i64 v.a) := fun w' h => (KL w' h).1
                    have d1 : ∀ w', RowKit.Below (w10.alloc (.cells #[.int .i64 u.a, .int .i64 u.b, .int .i64 u.c, .string u.p] 37)).heap.size (w10.alloc (.cells #[.int .i64 u.a, .int .i64 u.b, .int .i64 u.c, .string u.p] 37)) w' → w'.cell? ⟨lb, lo + 1, none⟩ = some (.int .i64 v.b) := fun w' h => (KL w' h).2.1
                    have d2 : ∀ w', RowKit.Below (w10.alloc (.cells #[.int .i64 u.a, .int .i64 u.b, .int .i64 u.c, .string u.p] 37)).heap.size (w10.alloc (.cells #[.int .i64 u.a, .int .i64 u.b, .int .i64 u.c, .string u.p] 37)) w' → w'.cell? ⟨lb, lo + 2, none⟩ = some (.int .i64 v.c) := fun w' h => (KL w' h).2.2.1
                    have d3 : ∀ w', RowKit.Below (w10.alloc (.cells #[.int .i64 u.a, .int .i64 u.b, .int .i64 u.c, .string u.p] 37)).heap.size (w10.alloc (.cells #[.int .i64 u.a, .int .i64 u.b, .int .i64 u.c, .string u.p] 37)) w' → w'.cell? ⟨lb, lo + 3, none⟩ = some (.string v.p) := fun w' h => (KL w' h).2.2.2.1
                    have KU : ∀ w', RowKit.Below (w10.alloc (.cells #[.int .i64 u.a, .int .i64 u.b, .int .i64 u.c, .string u.p] 37)).heap.size (w10.alloc (.cells #[.int .i64 u.a, .int .i64 u.b, .int .i64 u.c, .string u.p] 37)) w' → ∀ i, w'.cell? ⟨w10.heap.size, i, none⟩ = (#[.int .i64 u.a, .int .i64 u.b, .int .i64 u.c, .string u.p] : Array Value)[i]? := fun w' h => (XU.later h).c
                    replace SA := hide (SA.out.later bA)
                    replace HY := hide (HY.out.later bA)
                    replace G := hide (grown_below G.out bA)
                    clear KL XU bA SL hpr huo hdd HI2 HIO HIN HPR H2N H2S HUO HGT0
                    go_wp2_with fail
                    generalize w10.alloc (.cells #[.int .i64 u.a, .int .i64 u.b, .int .i64 u.c, .string u.p] 37) = W9 at *
                    go_region_held3 (fun w' => RowKit.Below W9.heap.size W9 w') (first | with_reducible assumption | exact (by repeat (first | with_reducible assumption | with_reducible exact Below.refl _ _ | with_reducible refine Below.setCell ?_ (by first | exact Nat.le_refl _ | (simp; done) | (simp; omega)) _ | with_reducible refine bal ?_ _ | with_reducible refine Below.alloc ?_ (by first | exact Nat.le_refl _ | (simp; done) | (simp; omega)) _ | with_reducible refine Below.drew ?_))) (first
                      | (go_at_call 48; refine (rnormL _ (some ⟨W9.heap.size, 0, none⟩) 1 1 [((some (v, false), some (u, true)) : Sp.S)] (by exact ERow.newAt W9.drew (some (v, false), some (u, true)) _ _ (by simp)) (by omega) HOS.out).mono ?_; rintro e w11 ⟨v11, rfl, o11, b11⟩; have b11 : RowKit.Below W9.heap.size W9 w11 := (by refine Below.trans ?_ (Below.mono b11 ?_); rotate_left; exact Below.size (by with_reducible assumption); with_reducible assumption)))
                    rw [Sp.nrm_one] at o11
                    obtain ⟨al2, nl2, cl2, rfl, sl2⟩ := SR.of (B := 2) o11 HRO.out.1 HRO.out.2
                    have SL := hide sl2
                    replace SA := hide (SA.out.later b11)
                    replace HY := hide (HY.out.later b11)
                    replace G := hide (grown_below G.out b11)
                    clear sl2 o11 b11 d0 d1 d2 d3 KU
                    go_wp2_with fail
                    refine (rand_sl _ _ _ _ _ _ _ _ _ _ 2 SA.out SL.out HBND.out (by omega)).mono ?_
                    rintro e w9 ⟨a9, n9, c9, rfl, h9, b9⟩
                    have X9 := hide (HY.out.later b9)
                    have G9 := hide (grown_below G.out b9)
                    rw [Sp.all_snoc (fun m hm => (HLS.out m hm).1) SL.out.row] at h9
                    have HLS9 := hide (mem_snoc HLS.out ⟨SL.out.row, (by have h1 := SL.out.r.n; have h2 := SL.out.le; omega)⟩)
                    have S9 := hide (h9.all HLS9.out)
                    have ST9 := hide (ST.out.next HC.out HIT.out)
                    clear h9 b9
                    go_wp2_with fail
                    go_roundg (s.size - p3)
                    case measure => have := HGT.out; omega
                    case rel =>
                      have hg := HGT.out
                      have hl := HLQ.out
                      have hk := HK.out
                      refine ⟨p3, f', 0, n9, c9, a9, _, hg.2, rfl, by omega, rfl, (congrArg (Value.int .i64) (by rw [List.length_append, List.length_singleton]; omega)), by rw [List.length_append, List.length_singleton]; omega, rfl, X9, S9, G9, HLS9, (by have h := ST9.out; rw [HP3E.out] at h; exact hide h)⟩
                  · replace G := hide (grown_below G.out (show RowKit.Below w10.heap.size w10 (w10.alloc (.cells #[.int .i64 u.a, .int .i64 u.b, .int .i64 u.c, .string u.p] 37)) from (by repeat (first | with_reducible assumption | with_reducible exact Below.refl _ _ | with_reducible refine Below.setCell ?_ (by first | exact Nat.le_refl _ | (simp; done) | (simp; omega)) _ | with_reducible refine bal ?_ _ | with_reducible refine Below.alloc ?_ (by first | exact Nat.le_refl _ | (simp; done) | (simp; omega)) _ | with_reducible refine Below.drew ?_))))
                    have hxd : (x2.toList == [45]) = false := by rw [toList_data, HX2.out]; simpa using hdd
                    have hxd2 : (!x2.toList == [45]) = true := by rw [hxd]; rfl
                    have HIT := hide (HIO.out l rfl (.inr hdd))
                    have HGT := hide (HGT0.out _ _ HIT.out)
                    rw [HBL.out] at HGT
                    have HPM : Hid (pm = (none, p1)) := by
                      have h := ST.out.next HC.out HIT.out
                      rw [HBL.out] at h
                      have hg := HGT.out
                      obtain ⟨f2, rfl⟩ : ∃ f2, f' = f2 + 1 := ⟨f' - 1, by omega⟩
                      obtain ⟨tt, htt⟩ := HB1.out
                      refine h.none ?_ (Sp.item_none (by rw [htt]; exact Sp.meant_bar tt))
                      rintro ⟨_, h1 | h1⟩
                      · rw [len_eq] at h1; omega
                      · rw [HG1.out] at h1; exact absurd (Option.some.inj h1) (by decide)
                    clear HIT HGT hdd
                    go_wp2_with fail
                    refine bodyPost_ret (v := .tuple #[.slice none 0 0, .int .i64 p1, .bool false]) (by simp [results, Tryz.results18, go_sem]) rfl ⟨partR_no HPM.out, G.out⟩
              · have HIT := hide (HIO.out l rfl (.inr (Sp.word_nobar (by rw [hget]; exact fun h => hc (Option.some.inj h)))))
                have HGT := hide (HGT0.out _ _ HIT.out)
                rw [HBL.out] at HGT
                have hne : ((s[p1].toNat : Int) == 45) = false := by
                  have : ¬ s[p1].toNat = 45 := fun h => hc (UInt8.toNat_inj.1 h)
                  simpa using (by omega : ¬ (s[p1].toNat : Int) = 45)
                have hne2 : ¬ (s[p1].toNat : Int) = 45 := by simpa using hne
                clear he hget hc
                go_wp2_with fail
                go_quiet (fail)
                have bq := belDrewN w5 nq
                replace HY := hide (HY.out.later bq)
                replace SA := hide (SA.out.later bq)
                replace SL := hide (SL.out.later bq)
                replace G := hide (grown_below G.out bq)
                clear bq cY
                generalize w5.drewN nq = w6 at *
                go_wp2_with fail
                refine (rand_sl _ _ _ _ _ _ _ _ _ _ 2 SA.out SL.out HBND.out (by omega)).mono ?_
                rintro e w9 ⟨a9, n9, c9, rfl, h9, b9⟩
                have X9 := hide (HY.out.later b9)
                have G9 := hide (grown_below G.out b9)
                rw [Sp.all_snoc (fun m hm => (HLS.out m hm).1) SL.out.row] at h9
                have HLS9 := hide (mem_snoc HLS.out ⟨SL.out.row, (by have h1 := SL.out.r.n; have h2 := SL.out.le; omega)⟩)
                have S9 := hide (h9.all HLS9.out)
                have ST9 := hide (ST.out.next HC.out HIT.out)
                clear h9 b9
                go_wp2_with fail
                go_roundg (s.size - p1)
                case measure => have := HGT.out; omega
                case rel =>
                  have hg := HGT.out
                  have hl := HLQ.out
                  have hk := HK.out
                  refine ⟨p1, f', 0, n9, c9, a9, _, hg.2, rfl, by omega, rfl, (congrArg (Value.int .i64) (by rw [List.length_append, List.length_singleton]; omega)), by rw [List.length_append, List.length_singleton]; omega, rfl, X9, S9, G9, HLS9, (by have h := ST9.out; rw [HBL.out] at h; exact hide h)⟩
end Go.Proofs.YthihnpjbdjmbhaaGreatDoor
