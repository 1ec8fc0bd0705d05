/-
  Contract of the reference's Parse.
  What is left of any text, strings.IndexAny at it; []byte(s), string(b).
-/
import Derived.Test.YtohnlhfgajipgaaGreatDoorG44
import Derived.Test.YtohnlhfgajipgaaGreatDoorG27
import Derived.BigQuiet
import Derived.Test.YtohnlhfgajipgaaGreatDoorG39
import Derived.Test.YtohnlhfgajipgaaGreatDoorG38
import Derived.Laws.IdiomStrings

namespace Go.Proofs.YtohnlhfgajipgaaGreatDoor
set_option linter.unusedSimpArgs false
set_option linter.unusedVariables false
open Go.RowKit Go.Vr Go.Sort Go.Tx Go.Lib
attribute [local go_sem] setCellDrewN allocDrewN

/-- What the reference's Parse answers. -/
def ParseR (o : Option (List Sp.S) × Nat) (e : Ending) (w' : World) : Prop := match o.1 with
  | none => e = .returned (.tuple #[.slice none 0 0, .int .i64 o.2, .int .i64 6])
  | some l => ∃ ad n cp, e = .returned (.tuple #[.slice ad n cp, .int .i64 0, .int .i64 0]) ∧ SR w' ad n l 4000
theorem parseR_no {o : Option (List Sp.S) × Nat} {q : Nat} {w' : World} {z : Int} (h : o = (none, q)) (hz : z = q) : ParseR o (.returned (.tuple #[.slice none 0 0, .int .i64 z, .int .i64 6])) w' := by rw [h, hz]; rfl

set_option maxHeartbeats 16000000 in
set_option maxRecDepth 100000 in
theorem rparseS_any (s : ByteArray) (w : World) (hs : s.size ≤ 1300) :
    Calls Tryz.prog 31 #[.string s] w fun e w' => ParseR (Sp.parseS s.data.toList) e w' ∧ RowKit.Below w.heap.size w w' := by
  have HP0 : Hid (Sp.parseS s.data.toList = Sp.partsG s.data.toList (s.size + 1) 0 []) := by show _ = _; unfold Sp.parseS; rw [len_eq]
  generalize Sp.parseS s.data.toList = pm at *
  go_enter Tryz.func31, Tryz.ntmps31
  go_wp2_with fail
  have X0 := hide (Box.new w (rd s 0) 84)
  have B0 : Hid (RowKit.Below w.heap.size w (w.alloc (.cells (rd s 0) 84))) := hide (by repeat (first | with_reducible assumption | with_reducible exact Below.refl _ _ | with_reducible refine Below.setCell ?_ (by first | exact Nat.le_refl _ | (simp; done) | (simp; omega)) _ | with_reducible refine bal ?_ _ | with_reducible refine Below.alloc ?_ (by first | exact Nat.le_refl _ | (simp; done) | (simp; omega)) _ | with_reducible refine Below.drew ?_))
  have S0 := hide (SR.nil (w.alloc (.cells (rd s 0) 84)) 1)
  have er : w.alloc (.cells (rd s 0) 84) = w.alloc (.cells #[.string s, .int .i64 0] 84) := rfl
  rw [er] at X0 B0 S0
  generalize w.alloc (.cells #[.string s, .int .i64 0] 84) = W1 at *
  clear er
  go_loopg [6] s.size (fun g a wr => ∃ (q f n cp : Nat) (adr : Option Addr) (ls : List (List Sp.S)), q ≤ s.size ∧ g = s.size - q ∧ s.size - q < f ∧ a = .slice adr n cp ∧ ls.flatten.length ≤ 3 * q ∧ Hid (Box wr w.heap.size (rd s q)) ∧ Hid (SR wr adr n (Sp.nrm ls.flatten) (3 * q + 1)) ∧ Hid (RowKit.Below w.heap.size w wr) ∧ Hid (pm = Sp.partsG s.data.toList f q ls))
  case atStart => exact ⟨0, s.size + 1, 0, 0, none, [], by omega, by omega, by omega, rfl, by simp, X0, S0, B0, HP0⟩
  case round =>
    clear X0 S0 B0 HP0
    obtain ⟨q, f, n, cp, adr, ls, hq, rfl, hf, rfl, hfl, HY, SA, HB, HP⟩ := hrel
    obtain ⟨f', rfl⟩ : ∃ f', f = f' + 1 := ⟨f - 1, by omega⟩
    have CI := hide (rpart_any w.heap.size s q wr HY.out hq hs)
    have HP2 : Hid (pm = match Sp.partM s.data.toList q with | (none, q) => (none, q) | (some l, q) => if q = s.data.toList.length then (some (Sp.nrm (ls ++ [l]).flatten), q) else if s.data.toList[q + 1]? = some 124 then Sp.partsG s.data.toList f' (q + 2) (ls ++ [l]) else (none, q + 1)) := HP
    have hpk := fun l q' => @part_ok s.data.toList q q' l (by rw [len_eq]; exact hq)
    have HPK := hide hpk
    clear HP hpk
    generalize Sp.partM s.data.toList q = im at *
    obtain ⟨im1, q1⟩ := im
    go_wp2_with fail
    refine CI.out.mono ?_
    rintro e w2 ⟨t2, g2⟩
    have SA2 := hide (SA.out.far HY.out g2)
    have B2 : Hid (RowKit.Below w.heap.size w w2) := hide (HB.out.grown g2 HB.out.size (fun k e => by have := Option.some.inj e; omega))
    clear CI g2 SA HB
    cases im1 with
    | none =>
      have HP3 : Hid (pm = (none, q1)) := HP2
      have t3 : e = .returned (.tuple #[.slice none 0 0, .int .i64 q1, .bool false]) := t2
      subst t3
      clear t2
      go_wp2_with fail
      exact bodyPost_ret (v := .tuple #[.slice none 0 0, .int .i64 q1, .int .i64 6]) (by simp [results, Tryz.results31, go_sem]) rfl ⟨parseR_no HP3.out rfl, B2.out⟩
    | some l =>
      obtain ⟨al, nl, cl, h2, sl, x2⟩ : ∃ ad n cp, e = .returned (.tuple #[.slice ad n cp, .int .i64 0, .bool true]) ∧ SR w2 ad n l 4000 ∧ Box w2 w.heap.size (rd s q1) := t2
      subst h2
      obtain ⟨okl, nml, lnl, hlt1, hle1, hend⟩ := HPK.out l q1 rfl
      rw [len_eq] at hle1 hend
      have HP3 : Hid (pm = if q1 = s.data.toList.length then (some (Sp.nrm (ls ++ [l]).flatten), q1) else if s.data.toList[q1 + 1]? = some 124 then Sp.partsG s.data.toList f' (q1 + 2) (ls ++ [l]) else (none, q1 + 1)) := HP2
      rw [len_eq] at HP3
      have HFL : Hid ((ls ++ [l]).flatten.length ≤ 3 * q1 + 2) := by
        show _ ≤ _
        have e : (ls ++ [l]).flatten.length = ls.flatten.length + l.length := by rw [List.flatten_append, List.length_append]; simp
        rw [e]; omega
      have SL := hide sl
      have X2 := hide x2
      have HEnd := hide hend
      have HQ1 : Hid (q < q1 ∧ q1 ≤ s.size ∧ s.size - q < f' + 1) := ⟨hlt1, hle1, hf⟩
      clear sl x2 okl nml lnl hlt1 hle1 hend HPK HP2 hfl HY
      have HBq : Hid (3 * q + 1 ≤ 4200) := by show _ ≤ _; omega
      go_wp2_with fail
      refine (ror_sl _ _ _ _ _ _ _ _ _ _ 4000 SA2.out SL.out HBq.out (by omega)).mono ?_
      rintro e w3 ⟨a3, n3, c3, rfl, h3, b3⟩
      rw [← Sp.or_app, Sp.or_snoc] at h3
      have S3 : Hid (SR w3 a3 n3 (Sp.nrm (ls ++ [l]).flatten) (3 * q1 + 3)) := ⟨h3.r, h3.row, by have h1 := nrm_len (ls ++ [l]).flatten; have h2 := HFL.out; rw [h3.r.n] at h1; omega⟩
      have X3 := hide (X2.out.later b3)
      have B3 := hide (step B2.out b3)
      have cY := X3.out.c
      have fY := X3.out.f
      clear h3 b3 SA2 SL X2 B2
      have hq1 := HQ1.out
      have i1 : (0 : Int) ≤ (q1 : Int) := by omega
      have wq1 : wrap64 ((q1 : Int) + 1) = ((q1 + 1 : Nat) : Int) := by unfold wrap64; omega
      have wq2 : wrap64 ((q1 : Int) + 2) = ((q1 + 2 : Nat) : Int) := by unfold wrap64; omega
      by_cases he : q1 = s.size
      · have HP4 := hide HP3.out
        rw [if_pos he] at HP4
        have i2 : (s.size : Int) ≤ (q1 : Int) := by omega
        have HBD : Hid (3 * q1 + 3 ≤ 4000) := by show _ ≤ _; omega
        have i3 : decide ((s.size : Int) ≤ (q1 : Int)) = true := decide_eq_true i2
        clear he hq1 HP3
        go_wp2_with fail
        refine bodyPost_ret (v := .tuple #[.slice a3 n3 c3, .int .i64 0, .int .i64 0]) (by simp [results, Tryz.results31, go_sem]) rfl ⟨?_, B3.out⟩
        rw [HP4.out]
        exact ⟨a3, n3, c3, rfl, S3.out.r, S3.out.row, Nat.le_trans S3.out.le HBD.out⟩
      · have HP4 := hide HP3.out
        rw [if_neg he] at HP4
        have hlt : q1 < s.size := by omega
        have i2 : ¬ (s.size : Int) ≤ (q1 : Int) := by omega
        have i3 : decide ((s.size : Int) ≤ (q1 : Int)) = false := decide_eq_false i2
        have i4 : decide (s.size ≤ q1) = false := by simp; omega
        by_cases he2 : q1 + 1 = s.size
        · have HP5 : Hid (pm = (none, q1 + 1)) := by show _ = _; rw [HP4.out, if_neg (by rw [List.getElem?_eq_none (by rw [len_eq]; omega)]; exact fun h => nomatch h)]
          have i5 : (s.size : Int) ≤ (q1 : Int) + 1 := by omega
          have i6 : decide ((s.size : Int) ≤ (q1 : Int) + 1) = true := decide_eq_true i5
          clear wq1 wq2
          go_wp2_with fail
          go_quiet (fail)
          have bq := belDrewN w3 nq
          have B4 := hide (step B3.out bq)
          clear bq cY fY
          go_wp2_with fail
          exact bodyPost_ret (v := .tuple #[.slice none 0 0, .int .i64 ((q1 : Int) + 1), .int .i64 6]) (by simp [results, Tryz.results31, go_sem]) rfl ⟨parseR_no HP5.out (by omega), B4.out⟩
        · have hlt2 : q1 + 1 < s.size := by omega
          have i5 : ¬ (s.size : Int) ≤ (q1 : Int) + 1 := by omega
          have i6 : decide ((s.size : Int) ≤ (q1 : Int) + 1) = false := decide_eq_false i5
          have i7 : (q1 : Int) + 1 < (s.size : Int) := by omega
          have i8 : (0 : Int) ≤ (q1 : Int) + 1 := by omega
          have hget : s.data.toList[q1 + 1]? = some s[q1 + 1] := Lib.data_getElem? s (q1 + 1) hlt2
          clear wq1 wq2
          by_cases hc : s[q1 + 1] = 124
          · have HP5 : Hid (pm = Sp.partsG s.data.toList f' (q1 + 2) (ls ++ [l])) := by show _ = _; rw [HP4.out, if_pos (by rw [hget, hc])]
            clear hget
            go_wp2_with fail
            go_roundg (s.size - (q1 + 2))
            case measure => omega
            case rel =>
              have hg : w3.grownBy (w3.setCell ⟨w.heap.size, 1, none⟩ (.int .i64 ((q1 : Int) + 2))) (some w.heap.size) := grownBy_setCell _ _ _ _
              have s4 := S3.out.far X3.out hg
              refine ⟨q1 + 2, f', n3, c3, a3, ls ++ [l], by omega, rfl, by omega, rfl, by have := HFL.out; omega, hide (set1 X3.out ((q1 : Int) + 2) (q1 + 2) (by omega)), hide ⟨s4.r, s4.row, Nat.le_trans s4.le (by omega)⟩, hide (B3.out.grown hg B3.out.size (fun k e => by have := Option.some.inj e; omega)), HP5⟩
          · have HP5 : Hid (pm = (none, q1 + 1)) := by show _ = _; rw [HP4.out, if_neg (by rw [hget]; exact fun h => hc (Option.some.inj h))]
            have hne : ((s[q1 + 1].toNat : Int) == 124) = false := by
              have : ¬ s[q1 + 1].toNat = 124 := fun h => hc (UInt8.toNat_inj.1 h)
              simpa using (by omega : ¬ (s[q1 + 1].toNat : Int) = 124)
            have hne2 : ¬ (s[q1 + 1].toNat : Int) = 124 := by simpa using hne
            clear hget hc
            go_wp2_with fail
            go_quiet (fail)
            have bq := belDrewN w3 nq
            have B4 := hide (step B3.out bq)
            clear bq cY fY
            go_wp2_with fail
            exact bodyPost_ret (v := .tuple #[.slice none 0 0, .int .i64 ((q1 : Int) + 1), .int .i64 6]) (by simp [results, Tryz.results31, go_sem]) rfl ⟨parseR_no HP5.out (by omega), B4.out⟩
end Go.Proofs.YtohnlhfgajipgaaGreatDoor

namespace Go.Proofs.YtohnlhfgajipgaaGreatDoor
set_option linter.unusedSimpArgs false
set_option linter.unusedVariables false
open Go.RowKit Go.Tx Go.Joins Go.Vr Go.Sort Go.Lib

theorem ia_any (s : ByteArray) (hs : s.size ≤ 1000000) : IA s := by
  intro p W hp
  have hy : (s.extract p s.size).data.toList = s.data.toList.drop p := by
    simp only [ByteArray.data_extract, Array.toList_extract, List.extract_eq_take_drop]
    rw [List.take_of_length_le (by rw [List.length_drop, len_eq]; exact Nat.le_refl _)]
  have hz : (s.extract p s.size).size ≤ 1000000 := by rw [← len_eq, hy, List.length_drop, len_eq]; omega
  by_cases h8 : (s.extract p s.size).size ≤ 8
  · have h := any_short (s.extract p s.size) W h8
    rw [hy] at h
    exact h
  · have h116 : (Tryz.prog.info? (Tryz.lays153_ren.t 116)).map (fun i => (i.zero, i.size)) = some (some (.agg (Array.replicate 256 (.bool false))), 256) := by kernel_rfl
    have h := Any.strings_IndexAny_long Tryz.lays153 (zero_of_info h116).1 (zero_of_info h116).2 (s.extract p s.size) ⟨#[32, 124]⟩ W (by decide) (by omega) (by omega) (by decide)
      (fun j b hj => by
        have hm := List.mem_of_getElem? hj
        have : b = 32 ∨ b = 124 := by simpa using hm
        rcases this with rfl | rfl <;> decide)
    rw [hy] at h
    refine h.mono ?_
    rintro e w' ⟨h1, rfl⟩
    exact ⟨h1, ((RowKit.Below.refl _ _).alloc (Nat.le_refl _) _).alloc (by simp) _⟩

/-- string(b) of a slice of bytes that came in. -/
theorem Row.conv {w : World} {a : Option Addr} {len cap : Nat} {xs : List Int} (h : Row .u8 w a len cap xs) : (convert 40 9 (.slice a len cap)).run Tryz.prog w = .ok (.string (strOfNums xs)) w := by
  cases a with
  | none =>
    obtain ⟨rfl, rfl⟩ := h.nil rfl
    obtain rfl : xs = [] := List.eq_nil_of_length_eq_zero h.n
    exact run_convert_bytes_nil w 40 5 Tryz.underlying40 Tryz.underlying5 0 0 9 Tryz.underlying9
  | some x =>
    by_cases h0 : len = 0
    · subst h0
      obtain rfl : xs = [] := List.eq_nil_of_length_eq_zero h.n
      rw [run_convert_bytes_string w 40 9 5 (some x) 0 cap Tryz.underlying40 Tryz.underlying5 Tryz.underlying9, run_bytesToString w x 0 cap [] (run_loadCells_list (P := Tryz.prog) w x [] (fun j v hj => by simp at hj))]
      rfl
    · obtain ⟨b, off, spot⟩ := x
      have hc := h.cell _ rfl 0 (by omega)
      have hspot : spot = none := by simpa [Addr.add] using World.cell?_spot hc
      subst hspot
      exact run_convert_bytes_arg w 40 5 Tryz.underlying40 Tryz.underlying5 b off len cap xs h.n (fun i hi => by have := h.cell _ rfl i hi; rw [addr_add] at this; exact this) 9 Tryz.underlying9

theorem bd8 {n : Int} (h : (Lit.int .u8 n).wf = true) : 0 ≤ n ∧ n ≤ 255 := bounds_u8 h

/-- []byte(s): a row of its own. -/
theorem conv_bytes (s : ByteArray) (w : World) (hs : s.size ≤ 1000) : ∃ (cap : Nat) (w' : World) (xs : List Int), (convert 9 40 (.string s)).run Tryz.prog w = .ok (.slice (some ⟨w.heap.size, 0, none⟩) s.size cap) w' ∧ Row .u8 w' (some ⟨w.heap.size, 0, none⟩) s.size cap xs ∧ (∀ j, j < s.size → w'.frozen? ⟨w.heap.size, j, none⟩ = false) ∧ RowKit.Below w.heap.size w w' ∧ w.heap.size < w'.heap.size := by
  refine ⟨_, _, s.data.toList.map (fun c => (c.toNat : Int)), run_bytes_of_string w 9 40 5 s Tryz.underlying9 Tryz.underlying40 Tryz.underlying5, ?_, ?_, ?_, ?_⟩
  · refine ⟨by simp, (fun e => nomatch e), grownCap_ge _ _ _ _, grownCap_le_maxLen _ _ _ _ (by unfold maxLen; omega), fun x e i hi => ?_, fun z hz => ?_⟩
    · obtain rfl : ⟨w.heap.size, 0, none⟩ = x := by simpa using e
      rw [addr_add, Nat.zero_add]
      have h1 := World.cell?_alloc_mark w.drew (bytesRow s (grownCap w s.size 0 5)) 5 ((bytesRow s (grownCap w s.size 0 5)).size, (bytesRow s (grownCap w s.size 0 5)).size + 1) i
      have h2 := bytesRow_at s (grownCap w s.size 0 5) i hi
      have hi2 : i < s.data.toList.length := by rw [len_eq]; exact hi
      refine (h1.trans h2).trans ?_
      simp [List.getD, List.getElem?_eq_getElem hi2]
    · simp at hz
      obtain ⟨c, _, rfl⟩ := hz
      have := c.toNat_lt
      exact WalkArith.wf_u8 (by omega)
  · intro j hj
    have h1 := World.frozen?_alloc_mark w.drew (bytesRow s (grownCap w s.size 0 5)) 5 (bytesRow s (grownCap w s.size 0 5)).size ((bytesRow s (grownCap w s.size 0 5)).size + 1) j
    refine Eq.trans h1 ?_
    have : s.size ≤ (bytesRow s (grownCap w s.size 0 5)).size := by simp [bytesRow]
    simp; omega
  · exact ((RowKit.Below.refl _ _).drew).alloc (by simp) _
  · simp

theorem Row.put {w : World} {N len cap : Nat} {xs : List Int} (h : Row .u8 w (some ⟨N, 0, none⟩) len cap xs) (j : Nat) (hj : j < len) (n : Int) (hn : (Lit.int .u8 n).wf = true) : Row .u8 (w.setCell ⟨N, j, none⟩ (.int .u8 n)) (some ⟨N, 0, none⟩) len cap (xs.set j n) := by
  refine ⟨by rw [List.length_set]; exact h.n, (fun e => nomatch e), h.le, h.mx, fun x e i hi => ?_, fun z hz => ?_⟩
  · obtain rfl : ⟨N, 0, none⟩ = x := by simpa using e
    have hc := h.cell _ rfl i hi
    have hcj := h.cell _ rfl j hj
    rw [addr_add, Nat.zero_add] at hc hcj ⊢
    have hix : i < xs.length := by rw [h.n]; exact hi
    by_cases e : j = i
    · subst e
      rw [World.cell?_setCell_same w ⟨N, j, none⟩ _ hcj]
      simp [List.getD, hix]
    · have ho := World.cell?_setCell_other (w := w) (a := ⟨N, j, none⟩) (b := ⟨N, i, none⟩) (v := .int .u8 n) (by simp)
      rw [ho, hc]
      simp [List.getD, e]
  · rcases List.mem_or_eq_of_mem_set hz with h1 | h1
    · exact h.wf z h1
    · rw [h1]; exact hn


end Go.Proofs.YtohnlhfgajipgaaGreatDoor
