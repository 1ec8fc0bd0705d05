/-
  Contract of the reference's Parse.
  Contracts of Parse at a sign and a version, of Has, as the laws use them.
  Contracts of the third law's ref2, word, Words: the text's form.
-/
import Derived.Test.YthihnpjbdjmbhaaGreatDoorG39
import Derived.Test.YthihnpjbdjmbhaaGreatDoorG27
import Derived.BigQuiet
import Derived.Test.YthihnpjbdjmbhaaGreatDoorG33
import Derived.Test.YthihnpjbdjmbhaaGreatDoorG34
import Derived.Test.YthihnpjbdjmbhaaGreatDoorG30

namespace Go.Proofs.YthihnpjbdjmbhaaGreatDoor
set_option linter.unusedSimpArgs false
set_option linter.unusedVariables false
open Go.RowKit Go.Vr Go.Sort Go.Tx Go.Lib
attribute [local go_sem] setCellDrewN allocDrewN

/-- What the reference's Parse answers. -/
def ParseR (o : Option (List Sp.S) × Nat) (e : Ending) (w' : World) : Prop := match o.1 with
  | none => e = .returned (.tuple #[.slice none 0 0, .int .i64 o.2, .int .i64 6])
  | some l => ∃ ad n cp, e = .returned (.tuple #[.slice ad n cp, .int .i64 0, .int .i64 0]) ∧ SR w' ad n l 4000
theorem parseR_no {o : Option (List Sp.S) × Nat} {q : Nat} {w' : World} {z : Int} (h : o = (none, q)) (hz : z = q) : ParseR o (.returned (.tuple #[.slice none 0 0, .int .i64 z, .int .i64 6])) w' := by rw [h, hz]; rfl

set_option maxHeartbeats 16000000 in
set_option maxRecDepth 100000 in
theorem rparseS_any (s : ByteArray) (w : World) (hs : s.size ≤ 1300) :
    Calls Tryz.prog 8 #[.string s] w fun e w' => ParseR (Sp.parseS s.data.toList) e w' ∧ RowKit.Below w.heap.size w w' := by
  have HP0 : Hid (Sp.parseS s.data.toList = Sp.partsG s.data.toList (s.size + 1) 0 []) := by show _ = _; unfold Sp.parseS; rw [len_eq]
  generalize Sp.parseS s.data.toList = pm at *
  go_enter Tryz.func8, Tryz.ntmps8
  go_wp2_with fail
  have X0 := hide (Box.new w (rd s 0) 54)
  have B0 : Hid (RowKit.Below w.heap.size w (w.alloc (.cells (rd s 0) 54))) := hide (by repeat (first | with_reducible assumption | with_reducible exact Below.refl _ _ | with_reducible refine Below.setCell ?_ (by first | exact Nat.le_refl _ | (simp; done) | (simp; omega)) _ | with_reducible refine bal ?_ _ | with_reducible refine Below.alloc ?_ (by first | exact Nat.le_refl _ | (simp; done) | (simp; omega)) _ | with_reducible refine Below.drew ?_))
  have S0 := hide (SR.nil (w.alloc (.cells (rd s 0) 54)) 1)
  have er : w.alloc (.cells (rd s 0) 54) = w.alloc (.cells #[.string s, .int .i64 0] 54) := rfl
  rw [er] at X0 B0 S0
  generalize w.alloc (.cells #[.string s, .int .i64 0] 54) = W1 at *
  clear er
  go_loopg [6] s.size (fun g a wr => ∃ (q f n cp : Nat) (adr : Option Addr) (ls : List (List Sp.S)), q ≤ s.size ∧ g = s.size - q ∧ s.size - q < f ∧ a = .slice adr n cp ∧ ls.flatten.length ≤ 3 * q ∧ Hid (Box wr w.heap.size (rd s q)) ∧ Hid (SR wr adr n (Sp.nrm ls.flatten) (3 * q + 1)) ∧ Hid (RowKit.Below w.heap.size w wr) ∧ Hid (pm = Sp.partsG s.data.toList f q ls))
  case atStart => exact ⟨0, s.size + 1, 0, 0, none, [], by omega, by omega, by omega, rfl, by simp, X0, S0, B0, HP0⟩
  case round =>
    clear X0 S0 B0 HP0
    obtain ⟨q, f, n, cp, adr, ls, hq, rfl, hf, rfl, hfl, HY, SA, HB, HP⟩ := hrel
    obtain ⟨f', rfl⟩ : ∃ f', f = f' + 1 := ⟨f - 1, by omega⟩
    have CI := hide (rpart_any w.heap.size s q wr HY.out hq hs)
    have HP2 : Hid (pm = match Sp.partM s.data.toList q with | (none, q) => (none, q) | (some l, q) => if q = s.data.toList.length then (some (Sp.nrm (ls ++ [l]).flatten), q) else if s.data.toList[q + 1]? = some 124 then Sp.partsG s.data.toList f' (q + 2) (ls ++ [l]) else (none, q + 1)) := HP
    have hpk := fun l q' => @part_ok s.data.toList q q' l (by rw [len_eq]; exact hq)
    have HPK := hide hpk
    clear HP hpk
    generalize Sp.partM s.data.toList q = im at *
    obtain ⟨im1, q1⟩ := im
    go_wp2_with fail
    refine CI.out.mono ?_
    rintro e w2 ⟨t2, g2⟩
    have SA2 := hide (SA.out.far HY.out g2)
    have B2 : Hid (RowKit.Below w.heap.size w w2) := hide (HB.out.grown g2 HB.out.size (fun k e => by have := Option.some.inj e; omega))
    clear CI g2 SA HB
    cases im1 with
    | none =>
      have HP3 : Hid (pm = (none, q1)) := HP2
      have t3 : e = .returned (.tuple #[.slice none 0 0, .int .i64 q1, .bool false]) := t2
      subst t3
      clear t2
      go_wp2_with fail
      exact bodyPost_ret (v := .tuple #[.slice none 0 0, .int .i64 q1, .int .i64 6]) (by simp [results, Tryz.results8, go_sem]) rfl ⟨parseR_no HP3.out rfl, B2.out⟩
    | some l =>
      obtain ⟨al, nl, cl, h2, sl, x2⟩ : ∃ ad n cp, e = .returned (.tuple #[.slice ad n cp, .int .i64 0, .bool true]) ∧ SR w2 ad n l 4000 ∧ Box w2 w.heap.size (rd s q1) := t2
      subst h2
      obtain ⟨okl, nml, lnl, hlt1, hle1, hend⟩ := HPK.out l q1 rfl
      rw [len_eq] at hle1 hend
      have HP3 : Hid (pm = if q1 = s.data.toList.length then (some (Sp.nrm (ls ++ [l]).flatten), q1) else if s.data.toList[q1 + 1]? = some 124 then Sp.partsG s.data.toList f' (q1 + 2) (ls ++ [l]) else (none, q1 + 1)) := HP2
      rw [len_eq] at HP3
      have HFL : Hid ((ls ++ [l]).flatten.length ≤ 3 * q1 + 2) := by
        show _ ≤ _
        have e : (ls ++ [l]).flatten.length = ls.flatten.length + l.length := by rw [List.flatten_append, List.length_append]; simp
        rw [e]; omega
      have SL := hide sl
      have X2 := hide x2
      have HEnd := hide hend
      have HQ1 : Hid (q < q1 ∧ q1 ≤ s.size ∧ s.size - q < f' + 1) := ⟨hlt1, hle1, hf⟩
      clear sl x2 okl nml lnl hlt1 hle1 hend HPK HP2 hfl HY
      have HBq : Hid (3 * q + 1 ≤ 4200) := by show _ ≤ _; omega
      go_wp2_with fail
      refine (ror_sl _ _ _ _ _ _ _ _ _ _ 4000 SA2.out SL.out HBq.out (by omega)).mono ?_
      rintro e w3 ⟨a3, n3, c3, rfl, h3, b3⟩
      rw [← Sp.or_app, Sp.or_snoc] at h3
      have S3 : Hid (SR w3 a3 n3 (Sp.nrm (ls ++ [l]).flatten) (3 * q1 + 3)) := ⟨h3.r, h3.row, by have h1 := nrm_len (ls ++ [l]).flatten; have h2 := HFL.out; rw [h3.r.n] at h1; omega⟩
      have X3 := hide (X2.out.later b3)
      have B3 := hide (step B2.out b3)
      have cY := X3.out.c
      have fY := X3.out.f
      clear h3 b3 SA2 SL X2 B2
      have hq1 := HQ1.out
      have i1 : (0 : Int) ≤ (q1 : Int) := by omega
      have wq1 : wrap64 ((q1 : Int) + 1) = ((q1 + 1 : Nat) : Int) := by unfold wrap64; omega
      have wq2 : wrap64 ((q1 : Int) + 2) = ((q1 + 2 : Nat) : Int) := by unfold wrap64; omega
      by_cases he : q1 = s.size
      · have HP4 := hide HP3.out
        rw [if_pos he] at HP4
        have i2 : (s.size : Int) ≤ (q1 : Int) := by omega
        have HBD : Hid (3 * q1 + 3 ≤ 4000) := by show _ ≤ _; omega
        have i3 : decide ((s.size : Int) ≤ (q1 : Int)) = true := decide_eq_true i2
        clear he hq1 HP3
        go_wp2_with fail
        refine bodyPost_ret (v := .tuple #[.slice a3 n3 c3, .int .i64 0, .int .i64 0]) (by simp [results, Tryz.results8, go_sem]) rfl ⟨?_, B3.out⟩
        rw [HP4.out]
        exact ⟨a3, n3, c3, rfl, S3.out.r, S3.out.row, Nat.le_trans S3.out.le HBD.out⟩
      · have HP4 := hide HP3.out
        rw [if_neg he] at HP4
        have hlt : q1 < s.size := by omega
        have i2 : ¬ (s.size : Int) ≤ (q1 : Int) := by omega
        have i3 : decide ((s.size : Int) ≤ (q1 : Int)) = false := decide_eq_false i2
        have i4 : decide (s.size ≤ q1) = false := by simp; omega
        by_cases he2 : q1 + 1 = s.size
        · have HP5 : Hid (pm = (none, q1 + 1)) := by show _ = _; rw [HP4.out, if_neg (by rw [List.getElem?_eq_none (by rw [len_eq]; omega)]; exact fun h => nomatch h)]
          have i5 : (s.size : Int) ≤ (q1 : Int) + 1 := by omega
          have i6 : decide ((s.size : Int) ≤ (q1 : Int) + 1) = true := decide_eq_true i5
          clear wq1 wq2
          go_wp2_with fail
          go_quiet (fail)
          have bq := belDrewN w3 nq
          have B4 := hide (step B3.out bq)
          clear bq cY fY
          go_wp2_with fail
          exact bodyPost_ret (v := .tuple #[.slice none 0 0, .int .i64 ((q1 : Int) + 1), .int .i64 6]) (by simp [results, Tryz.results8, go_sem]) rfl ⟨parseR_no HP5.out (by omega), B4.out⟩
        · have hlt2 : q1 + 1 < s.size := by omega
          have i5 : ¬ (s.size : Int) ≤ (q1 : Int) + 1 := by omega
          have i6 : decide ((s.size : Int) ≤ (q1 : Int) + 1) = false := decide_eq_false i5
          have i7 : (q1 : Int) + 1 < (s.size : Int) := by omega
          have i8 : (0 : Int) ≤ (q1 : Int) + 1 := by omega
          have hget : s.data.toList[q1 + 1]? = some s[q1 + 1] := Lib.data_getElem? s (q1 + 1) hlt2
          clear wq1 wq2
          by_cases hc : s[q1 + 1] = 124
          · have HP5 : Hid (pm = Sp.partsG s.data.toList f' (q1 + 2) (ls ++ [l])) := by show _ = _; rw [HP4.out, if_pos (by rw [hget, hc])]
            clear hget
            go_wp2_with fail
            go_roundg (s.size - (q1 + 2))
            case measure => omega
            case rel =>
              have hg : w3.grownBy (w3.setCell ⟨w.heap.size, 1, none⟩ (.int .i64 ((q1 : Int) + 2))) (some w.heap.size) := grownBy_setCell _ _ _ _
              have s4 := S3.out.far X3.out hg
              refine ⟨q1 + 2, f', n3, c3, a3, ls ++ [l], by omega, rfl, by omega, rfl, by have := HFL.out; omega, hide (set1 X3.out ((q1 : Int) + 2) (q1 + 2) (by omega)), hide ⟨s4.r, s4.row, Nat.le_trans s4.le (by omega)⟩, hide (B3.out.grown hg B3.out.size (fun k e => by have := Option.some.inj e; omega)), HP5⟩
          · have HP5 : Hid (pm = (none, q1 + 1)) := by show _ = _; rw [HP4.out, if_neg (by rw [hget]; exact fun h => hc (Option.some.inj h))]
            have hne : ((s[q1 + 1].toNat : Int) == 124) = false := by
              have : ¬ s[q1 + 1].toNat = 124 := fun h => hc (UInt8.toNat_inj.1 h)
              simpa using (by omega : ¬ (s[q1 + 1].toNat : Int) = 124)
            have hne2 : ¬ (s[q1 + 1].toNat : Int) = 124 := by simpa using hne
            clear hget hc
            go_wp2_with fail
            go_quiet (fail)
            have bq := belDrewN w3 nq
            have B4 := hide (step B3.out bq)
            clear bq cY fY
            go_wp2_with fail
            exact bodyPost_ret (v := .tuple #[.slice none 0 0, .int .i64 ((q1 : Int) + 1), .int .i64 6]) (by simp [results, Tryz.results8, go_sem]) rfl ⟨parseR_no HP5.out (by omega), B4.out⟩
end Go.Proofs.YthihnpjbdjmbhaaGreatDoor

namespace Go.Proofs.YthihnpjbdjmbhaaGreatDoor
set_option linter.unusedSimpArgs false
set_option linter.unusedVariables false
open Go.RowKit Go.Vr Go.Sort Go.Tx Go.Lib

theorem parse_sl (s : ByteArray) (l : List Sp.S) (q : Nat) (W : World) (he : Env W) (hs : s.size ≤ 2000) (ha : ∀ b ∈ s.data.toList, b.toNat < 128) (hp : Sp.parseS s.data.toList = (some l, q)) (hr : Sp.Row l) (hl : l.length ≤ 2) :
    Calls Tryz.prog 7 #[.string s] W fun e w' => ∃ ad n cp, e = .returned (.tuple #[.slice ad n cp, .int .i64 0, .int .i64 0]) ∧ SR w' ad n l 2 ∧ RowKit.Below W.heap.size W w' := by
  refine (sparse_any s W hs (ia_ascii s (by omega) ha) he).mono ?_
  rintro e w' ⟨h, hb⟩
  rw [hp] at h
  obtain ⟨v', rfl, ho⟩ : ∃ v', e = .returned (.tuple #[v', .int .i64 0, .int .i64 0]) ∧ EOwn ES w' W.heap.size v' l := h
  obtain ⟨ad, n, cp, rfl, h2⟩ := SR.of (B := 2) ho hr hl
  exact ⟨ad, n, cp, rfl, h2, hb⟩
theorem has_sl (W : World) (he : Env W) (ad : Option Addr) (n cp : Nat) (l : List Sp.S) (B : Nat) (v : V) (h : SR W ad n l B) (hB : B ≤ 1000) (hv : v.ok = true) :
    Calls Tryz.prog 13 #[.slice ad n cp, val v] W fun e w' => e = .returned (.bool (l.any (inSp (some (v, false))))) ∧ RowKit.Below W.heap.size W w' := by
  have hle := h.le
  exact has_any ad n cp l v W h.r (by omega) h.row.ok hv he
theorem rtext_v (v : V) (W : World) (hv : v.ok = true) :
    Calls Tryz.prog 65 #[val v] W fun e w' => e = .returned (.string (str (txt v))) ∧ RowKit.Below W.heap.size W w' :=
  rtext_any v.a v.b v.c v.p W (ok_1000 hv) (ok_bd hv).1 (ok_bd hv).2.1 (ok_bd hv).2.2
theorem signed_two {g : Bs} {v : V} {l : List Sp.S} (h : Sp.signedM g v = some l) : l.length ≤ 2 := by
  have h1 : ∀ a b, (Sp.only Sp.cmpC a b).length ≤ 2 := fun a b => Nat.le_trans (only_len a b) (by omega)
  have h2 : ∀ a b, (Sp.notL (Sp.only Sp.cmpC a b)).length ≤ 2 := fun a b => Nat.le_trans (not_len _) (by have := only_len a b; omega)
  unfold Sp.signedM at h
  repeat' split at h
  all_goals first
    | (cases h; exact h1 _ _)
    | (cases h; exact h2 _ _)
    | (cases h; done)
/-- A sign and a version. -/
theorem sign_sl (g : ByteArray) (v : V) (l : List Sp.S) (W : World) (he : Env W) (hv : v.ok = true) (hg : (g.data.toList.all fun c => decide (c.toNat < 128) && (c != 118) && Sp.isW c) = true) (hgs : g.size ≤ 4) (h : Sp.signedM g.data.toList v = some l) :
    Calls Tryz.prog 7 #[.string (g ++ str (txt v))] W fun e w' => ∃ ad n cp, e = .returned (.tuple #[.slice ad n cp, .int .i64 0, .int .i64 0]) ∧ SR w' ad n l 2 ∧ RowKit.Below W.heap.size W w' := by
  have hg2 : ∀ c ∈ g.data.toList, c.toNat < 128 ∧ c ≠ 118 ∧ Sp.isW c = true := fun c hc => by
    have := List.all_eq_true.1 hg c hc
    simp only [Bool.and_eq_true, decide_eq_true_eq, bne_iff_ne, ne_eq] at this
    exact ⟨this.1.1, this.1.2, this.2⟩
  have hrow : Sp.Row l := ⟨(Sp.ok_signed hv h).2, (Sp.ok_signed hv h).1⟩
  have hd : (g ++ str (txt v)).data.toList = g.data.toList ++ txt v := by rw [ba_app, str_list]
  have hb : ∀ c ∈ (g ++ str (txt v)).data.toList, c.toNat < 128 ∧ Sp.isW c = true := by
    intro c hc
    rw [hd] at hc
    rcases List.mem_append.1 hc with hc | hc
    · exact ⟨(hg2 c hc).1, (hg2 c hc).2.2⟩
    · exact ⟨Sp.vb_small c (Sp.txt_bytes hv c hc), Sp.vb_w (Sp.txt_bytes hv c hc)⟩
  have hz : (g ++ str (txt v)).size ≤ 2000 := by rw [ByteArray.size_append]; have := (ok_txt hv).1; omega
  refine parse_sl _ l _ W he hz (fun c hc => (hb c hc).1) (Sp.parse_word hrow (fun c hc => (hb c hc).2) ?_) hrow (signed_two h)
  rw [hd]
  exact (Sp.meant_signed hv fun c hc => (hg2 c hc).2.1).trans h
/-- From a version to a version. -/
theorem two_sl (v u : V) (W : World) (he : Env W) (hv : v.ok = true) (hu : u.ok = true) :
    Calls Tryz.prog 7 #[.string (str (txt v) ++ ⟨#[32, 45, 32]⟩ ++ str (txt u))] W fun e w' => ∃ ad n cp, e = .returned (.tuple #[.slice ad n cp, .int .i64 0, .int .i64 0]) ∧ SR w' ad n (Sp.only Sp.cmpC (some (v, false)) (some (u, true))) 2 ∧ RowKit.Below W.heap.size W w' := by
  have hd : (str (txt v) ++ ⟨#[32, 45, 32]⟩ ++ str (txt u)).data.toList = txt v ++ [32, 45, 32] ++ txt u := by rw [ba_app, ba_app, str_list, str_list]
  have hz : (str (txt v) ++ ⟨#[32, 45, 32]⟩ ++ str (txt u)).size ≤ 2000 := by
    have e : (⟨#[32, 45, 32]⟩ : ByteArray).size = 3 := rfl
    rw [ByteArray.size_append, ByteArray.size_append, e]
    have := (ok_txt hv).1
    have := (ok_txt hu).1
    omega
  refine parse_sl _ _ _ W he hz ?_ (by rw [hd]; exact Sp.parse_two hv hu) (Sp.row_only (Sp.ok_v hv _) (Sp.ok_v hu _)) (Nat.le_trans (only_len _ _) (by omega))
  intro c hc
  rw [hd] at hc
  rcases List.mem_append.1 hc with hc | hc
  · rcases List.mem_append.1 hc with hc | hc
    · exact Sp.vb_small c (Sp.txt_bytes hv c hc)
    · have : c = 32 ∨ c = 45 := by simp at hc; rcases hc with rfl | rfl | rfl <;> simp
      rcases this with rfl | rfl <;> decide
  · exact Sp.vb_small c (Sp.txt_bytes hu c hc)
end Go.Proofs.YthihnpjbdjmbhaaGreatDoor

namespace Go.Proofs.YthihnpjbdjmbhaaGreatDoor
set_option linter.unusedSimpArgs false
set_option linter.unusedVariables false
open Go.RowKit Go.Vr Go.Sort Go.Tx Go.Lib
attribute [local go_sem] setCellDrewN allocDrewN

/-- A word, or two versions with a bar between. -/
def GoodW (x : Bs) : Prop := (∃ l, Sp.It x l ∧ Sp.Row l ∧ l.length ≤ 2) ∧ Sp.Hd x ∧ ∀ b ∈ x, b.toNat < 128
theorem good_sign {g : Bs} {v : V} (hv : v.ok = true) (hg : (g.all fun c => decide (c.toNat < 128) && (c != 118) && Sp.isW c && (c != 45)) = true) (hs : (Sp.signedM g v).isSome = true) : GoodW (g ++ txt v) := by
  have hg2 : ∀ c ∈ g, c.toNat < 128 ∧ c ≠ 118 ∧ Sp.isW c = true ∧ c ≠ 45 := fun c hc => by
    have := List.all_eq_true.1 hg c hc
    simp only [Bool.and_eq_true, decide_eq_true_eq, bne_iff_ne, ne_eq] at this
    exact ⟨this.1.1.1, this.1.1.2, this.1.2, this.2⟩
  obtain ⟨l, hl⟩ := Option.isSome_iff_exists.1 hs
  have hb : ∀ c ∈ g ++ txt v, c.toNat < 128 ∧ Sp.isW c = true := by
    intro c hc
    rcases List.mem_append.1 hc with hc | hc
    · exact ⟨(hg2 c hc).1, (hg2 c hc).2.2.1⟩
    · exact ⟨Sp.vb_small c (Sp.txt_bytes hv c hc), Sp.vb_w (Sp.txt_bytes hv c hc)⟩
  refine ⟨⟨l, Sp.it_word (fun c hc => (hb c hc).2) ((Sp.meant_signed hv fun c hc => (hg2 c hc).2.1).trans hl), ⟨(Sp.ok_signed hv hl).2, (Sp.ok_signed hv hl).1⟩, signed_two hl⟩, ?_, fun c hc => (hb c hc).1⟩
  cases g with
  | nil => exact ⟨118, _, rfl, by decide, by decide, by decide⟩
  | cons c t =>
    have h := hg2 c (by simp)
    refine ⟨c, t ++ txt v, rfl, ?_, ?_, h.2.2.2⟩
    · rintro rfl; exact absurd h.2.2.1 (by decide)
    · rintro rfl; exact absurd h.2.2.1 (by decide)
def goodB (x : Bs) : Bool := (x.all fun c => decide (c.toNat < 128) && Sp.isW c) && (Sp.meantM x).isSome && (match x with | c :: _ => c != 32 && c != 124 && c != 45 | [] => false)
theorem good_word {x : Bs} (h : goodB x = true) : GoodW x := by
  unfold goodB at h
  rw [Bool.and_eq_true, Bool.and_eq_true] at h
  obtain ⟨⟨h1, h2⟩, h3⟩ := h
  have hb : ∀ c ∈ x, c.toNat < 128 ∧ Sp.isW c = true := fun c hc => by
    have := List.all_eq_true.1 h1 c hc
    simpa using this
  obtain ⟨l, hl⟩ := Option.isSome_iff_exists.1 h2
  refine ⟨⟨l, Sp.it_word (fun c hc => (hb c hc).2) hl, ⟨(meantM_ok hl).2, (meantM_ok hl).1⟩, meant_len hl⟩, ?_, fun c hc => (hb c hc).1⟩
  cases x with
  | nil => exact nomatch h3
  | cons c t =>
    simp only [Bool.and_eq_true, bne_iff_ne, ne_eq] at h3
    exact ⟨c, t, rfl, h3.1.1, h3.1.2, h3.2⟩
theorem good_two {v u : V} (hv : v.ok = true) (hu : u.ok = true) : GoodW (txt v ++ [32, 45, 32] ++ txt u) := by
  refine ⟨⟨_, Sp.it_two hv hu, Sp.row_only (Sp.ok_v hv _) (Sp.ok_v hu _), Nat.le_trans (only_len _ _) (by omega)⟩, ?_, ?_⟩
  · rw [List.append_assoc]; exact ⟨118, _, rfl, by decide, by decide, by decide⟩
  · intro c hc
    rcases List.mem_append.1 hc with hc | hc
    · rcases List.mem_append.1 hc with hc | hc
      · exact Sp.vb_small c (Sp.txt_bytes hv c hc)
      · have : c = 32 ∨ c = 45 := by simp at hc; rcases hc with rfl | rfl | rfl <;> simp
        rcases this with rfl | rfl <;> decide
    · exact Sp.vb_small c (Sp.txt_bytes hu c hc)

set_option maxHeartbeats 1000000 in
theorem ref2_any (n : Int) (W : World) (h0 : 0 ≤ n) (h1 : n ≤ 1125899906842624) :
    Calls Tryz.prog 40 #[.int .i64 n] W fun e w' => ∃ v : V, e = .returned (.string (str (txt v))) ∧ v.ok = true ∧ RowKit.Below W.heap.size W w' := by
  have e3 : (0 : Int) ≤ n / 3 ∧ n / 3 ≤ 1125899906842624 := by omega
  have e5 : (0 : Int) ≤ n / 5 ∧ n / 5 ≤ 1125899906842624 := by omega
  go_enter Tryz.func40, Tryz.ntmps40
  go_wp2_with fail
  refine (make_any _ _ _ (by omega) (by omega)).mono ?_
  rintro e w1 ⟨v, rfl, ok, b1⟩
  go_wp2_with fail
  refine (rtext_v v _ ok).mono ?_
  rintro e w2 ⟨rfl, b2⟩
  go_wp2_with fail
  go_ret
  exact ⟨v, rfl, ok, step b1 b2⟩

set_option maxHeartbeats 8000000 in
set_option maxRecDepth 100000 in
theorem word3_any (n : Int) (W : World) (h0 : -9223372036854775808 ≤ n) (h1 : n ≤ 9223372036854775807) :
    Calls Tryz.prog 16 #[.int .i64 n] W fun e w' => ∃ x : ByteArray, e = .returned (.string x) ∧ x.size ≤ 150 ∧ Hid (GoodW x.data.toList) ∧ RowKit.Below W.heap.size W w' := by
  go_enter Tryz.func16, Tryz.ntmps16
  go_wp2_with fail
  refine (within3 n 1125899906842624 W (by omega) (by omega) h0 h1).mono ?_
  rintro e w1 ⟨j, rfl, hj, -, rfl⟩
  have j0 : (0 : Int) ≤ (j : Int) := by omega
  generalize (j : Int) = J at *
  go_wp2_with fail
  refine (ref2_any J _ j0 (by omega)).mono ?_
  rintro e w2 ⟨v, rfl, ok, b2⟩
  have OK := hide ok
  have B2 := hide b2
  have hsz := (ok_txt ok).1
  have e7 : (0 : Int) ≤ J / 7 ∧ J / 7 ≤ 1125899906842624 := by omega
  have er : (0 : Int) ≤ J % 16 ∧ J % 16 < 16 := by omega
  have ed : (0 : Int) ≤ J / 16 % 4 ∧ J / 16 % 4 < 4 := by omega
  clear ok b2 h0 h1 hj
  have HD : Hid (∀ g : ByteArray, (g ++ str (txt v)).data.toList = g.data.toList ++ txt v) := fun g => by rw [ba_app, str_list]
  have C7 : Hid (∀ W', Calls Tryz.prog 40 #[.int .i64 (J / 7)] W' fun e w' => ∃ u : V, e = .returned (.string (str (txt u))) ∧ u.ok = true ∧ RowKit.Below W'.heap.size W' w') := fun W' => ref2_any (J / 7) W' e7.1 e7.2
  have HT : Hid (∀ u : V, (str (txt v) ++ ⟨#[32, 45, 32]⟩ ++ str (txt u)).data.toList = txt v ++ [32, 45, 32] ++ txt u) := fun u => by rw [ba_app, ba_app, str_list, str_list]
  have GS : Hid (∀ g : ByteArray, g.size ≤ 4 → (g.data.toList.all fun c => decide (c.toNat < 128) && (c != 118) && Sp.isW c && (c != 45)) = true → (Sp.signedM g.data.toList v).isSome = true → (g ++ str (txt v)).size ≤ 150 ∧ Hid (GoodW (g ++ str (txt v)).data.toList)) := fun g h1 h2 h3 => ⟨by rw [ByteArray.size_append]; omega, by rw [HD.out]; exact hide (good_sign OK.out h2 h3)⟩
  have HZ := hide hsz
  clear hsz
  generalize hr : J % 16 = r at *
  generalize hD : J / 16 % 4 = D at *
  have hD4 : D = 0 ∨ D = 1 ∨ D = 2 ∨ D = 3 := by omega
  have HD4 := hide hD4
  have h16 : r = 0 ∨ r = 1 ∨ r = 2 ∨ r = 3 ∨ r = 4 ∨ r = 5 ∨ r = 6 ∨ r = 7 ∨ r = 8 ∨ r = 9 ∨ r = 10 ∨ r = 11 ∨ r = 12 ∨ r = 13 ∨ r = 14 ∨ r = 15 := by omega
  clear er ed hD4
  rcases h16 with rfl | rfl | rfl | rfl | rfl | rfl | rfl | rfl | rfl | rfl | rfl | rfl | rfl | rfl | rfl | rfl
  · go_wp2_with fail
    go_ret
    exact ⟨_, rfl, by decide, hide (good_word (by decide +kernel)), B2.out⟩
  · rcases HD4.out with rfl | rfl | rfl | rfl
    all_goals
      go_wp2_with fail
      go_ret
      exact ⟨_, rfl, by decide +kernel, hide (good_word (by decide +kernel)), B2.out⟩
  · rcases HD4.out with rfl | rfl | rfl | rfl
    all_goals
      go_wp2_with fail
      go_ret
      exact ⟨_, rfl, by decide +kernel, hide (good_word (by decide +kernel)), B2.out⟩
  · have n1 : ¬ 9223372036854775807 < (str (txt v)).size + 3 := by have := HZ.out; omega
    generalize hs1 : str (txt v) = t1 at *
    go_wp2_with fail
    refine (C7.out _).mono ?_
    rintro e w3 ⟨u, rfl, oku, b3⟩
    have z2 := (ok_txt oku).1
    have n2 : ¬ 9223372036854775807 < t1.size + 3 + (str (txt u)).size := by have := HZ.out; omega
    have GT : Hid ((t1 ++ ⟨#[32, 45, 32]⟩ ++ str (txt u)).size ≤ 150 ∧ GoodW (t1 ++ ⟨#[32, 45, 32]⟩ ++ str (txt u)).data.toList) := by
      refine ⟨?_, ?_⟩
      · have e : (⟨#[32, 45, 32]⟩ : ByteArray).size = 3 := rfl
        rw [ByteArray.size_append, ByteArray.size_append, e]
        have := HZ.out
        omega
      · rw [HT.out]; exact good_two OK.out oku
    have B3 := hide (step B2.out b3)
    clear z2 oku b3
    generalize str (txt u) = t2 at *
    go_wp2_with fail
    go_ret
    exact ⟨_, rfl, GT.out.1, hide GT.out.2, B3.out⟩
  · go_wp2_with fail
    go_ret
    exact ⟨_, rfl, by decide, hide (good_word (by decide +kernel)), B2.out⟩
  all_goals
    have hs : (str (txt v)).size ≤ 71 := HZ.out
    have n0 : ¬ 9223372036854775807 < 0 + (str (txt v)).size := by omega
    have n1 : ¬ 9223372036854775807 < 1 + (str (txt v)).size := by omega
    have n2 : ¬ 9223372036854775807 < 2 + (str (txt v)).size := by omega
    clear hs
    generalize hs1 : str (txt v) = t1 at *
    go_wp2_with fail
    go_ret
    exact ⟨_, rfl, (GS.out _ (by decide) (by decide) rfl).1, (GS.out _ (by decide) (by decide) rfl).2, step B2.out (by repeat (first | with_reducible assumption | with_reducible exact Below.refl _ _ | with_reducible refine Below.setCell ?_ (by first | exact Nat.le_refl _ | (simp; done) | (simp; omega)) _ | with_reducible refine bal ?_ _ | with_reducible refine Below.alloc ?_ (by first | exact Nat.le_refl _ | (simp; done) | (simp; omega)) _ | with_reducible refine Below.drew ?_))⟩
end Go.Proofs.YthihnpjbdjmbhaaGreatDoor
