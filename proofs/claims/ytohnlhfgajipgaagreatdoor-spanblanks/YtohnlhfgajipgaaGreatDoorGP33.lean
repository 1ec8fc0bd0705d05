/-
  The walk of SpanBlanks.
  SpanBlanks: more blanks, and parts in another order, change nothing of what a text of spans says: for every input the law answers true, and its arguments read afterwards as before. The library's variables as the program's text lays them.
-/
import Derived.Test.YtohnlhfgajipgaaGreatDoorG38
import Derived.Test.YtohnlhfgajipgaaGreatDoorTie
import Derived.Test.YtohnlhfgajipgaaGreatDoorCards
import Derived.Test.YtohnlhfgajipgaaGreatDoorG08
import Derived.ProofKit
import Derived.OpenShut
import Derived.ShutString
import Derived.LaidMore
import Derived.Lay
import Derived.SevenTiedAt
import Derived.Stop.Joined

namespace Go.Proofs.YtohnlhfgajipgaaGreatDoor.spanBlanks
set_option linter.unusedSimpArgs false
set_option linter.unusedVariables false
open Go.RowKit Go.Vr Go.Sort Go.Tx Go.Lib
attribute [local go_sem] setCellDrewN allocDrewN

theorem parseB_sl (B : Nat) (s : ByteArray) (l : List Sp.S) (q : Nat) (W : World) (he : Env W) (hs : s.size ≤ 2000) (ha : ∀ b ∈ s.data.toList, b.toNat < 128) (hp : Sp.parseS s.data.toList = (some l, q)) (hr : Sp.Row l) (hl : l.length ≤ B) :
    Calls Tryz.prog 30 #[.string s] W fun e w' => ∃ ad n cp, e = .returned (.tuple #[.slice ad n cp, .int .i64 0, .int .i64 0]) ∧ SR w' ad n l B ∧ RowKit.Below W.heap.size W w' := by
  refine (sparse_any s W hs (ia_ascii s (by omega) ha) he).mono ?_
  rintro e w' ⟨h, hb⟩
  rw [hp] at h
  obtain ⟨v', rfl, ho⟩ : ∃ v', e = .returned (.tuple #[v', .int .i64 0, .int .i64 0]) ∧ EOwn ES w' W.heap.size v' l := h
  obtain ⟨ad, n, cp, rfl, h2⟩ := SR.of (B := B) ho hr hl
  exact ⟨ad, n, cp, rfl, h2, hb⟩
theorem all_len {ls : List (List Sp.S)} (h : ∀ l ∈ ls, Sp.Row l ∧ l.length ≤ 2) : (Sp.allL ls).length ≤ 3 * ls.length + 2 := by
  have h1 : (ls.flatMap Sp.notL).length ≤ 3 * ls.length := by
    induction ls with
    | nil => simp
    | cons l ls ih =>
      have i := ih fun m hm => h m (by simp [hm])
      have j := (h l (by simp)).2
      have k := not_len l
      rw [List.flatMap_cons, List.length_append, List.length_cons]
      omega
  unfold Sp.allL
  have h2 := not_len (Sp.nrm (ls.flatMap Sp.notL))
  have h3 := nrm_len (ls.flatMap Sp.notL)
  omega
theorem fine_len : ∀ {qs : List (List (List Sp.S))}, (∀ ls ∈ qs, ∀ l ∈ ls, Sp.Row l ∧ l.length ≤ 2) → (∀ ls ∈ qs, ls ≠ []) → (qs.map Sp.allL).flatten.length ≤ 5 * qs.flatten.length
  | [], _, _ => by simp
  | ls :: qs, h, k => by
    have i := fine_len (qs := qs) (fun ms hms => h ms (by simp [hms])) (fun ms hms => k ms (by simp [hms]))
    have j := all_len (h ls (by simp))
    have m : ls.length ≠ 0 := fun e => k ls (by simp) (List.eq_nil_of_length_eq_zero e)
    rw [List.map_cons, List.flatten_cons, List.flatten_cons, List.length_append, List.length_append]
    omega
theorem fine_ok {qs : List (List (List Sp.S))} {K : Nat} (h : Sp.Fine qs K) : Sp.okL (qs.map Sp.allL).flatten := by
  intro s hs
  obtain ⟨m, hm, hs⟩ := List.mem_flatten.1 hs
  obtain ⟨ls, hls, rfl⟩ := List.mem_map.1 hm
  exact Sp.ok_all (fun l hl => (h.1 ls hls l hl).1.ok) s hs
theorem fine_row {qs : List (List (List Sp.S))} {K : Nat} (h : Sp.Fine qs K) : Sp.Row (Sp.nrm (qs.map Sp.allL).flatten) ∧ (Sp.nrm (qs.map Sp.allL).flatten).length ≤ 5 * K + 1 := by
  refine ⟨Sp.Row.nrm (fine_ok h), ?_⟩
  have h1 := nrm_len (qs.map Sp.allL).flatten
  have h2 := fine_len h.1 h.2.2
  have h3 := h.2.1
  omega
theorem nrm_swap {a b : List Sp.S} : Sp.nrm (a ++ b) = Sp.nrm (b ++ a) := Sp.nrm_uniq (Sp.nrm_nm _) fun x => (Sp.nrm_has _ x).trans (by
  show Sp.In _ _ x ↔ Sp.In _ _ x
  rw [Sp.in_app, Sp.in_app]; exact Or.comm)
theorem nrm_two_nrm {a b : List Sp.S} : Sp.nrm (a ++ b) = Sp.nrm [Sp.nrm a, Sp.nrm b].flatten := Sp.nrm_uniq (Sp.nrm_nm _) fun x => (Sp.nrm_has _ x).trans (by
  have e : [Sp.nrm a, Sp.nrm b].flatten = Sp.nrm a ++ Sp.nrm b := by simp
  rw [e]
  show Sp.In _ _ x ↔ Sp.In _ _ x
  rw [Sp.in_app, Sp.in_app]
  exact ⟨fun h => h.elim (fun h => .inl ((Sp.nrm_has a x).2 h)) (fun h => .inr ((Sp.nrm_has b x).2 h)), fun h => h.elim (fun h => .inl ((Sp.nrm_has a x).1 h)) (fun h => .inr ((Sp.nrm_has b x).1 h))⟩)
theorem bl_g (g : Nat) (h : g < 6) : (∀ d ∈ ((⟨#[32, 32, 32, 32, 32, 32]⟩ : ByteArray).extract 0 g).data.toList, d = 32) ∧ ((⟨#[32, 32, 32, 32, 32, 32]⟩ : ByteArray).extract 0 g).size ≤ 6 := by
  have hk : ((List.range 6).all fun g => (((⟨#[32, 32, 32, 32, 32, 32]⟩ : ByteArray).extract 0 g).data.toList.all fun d => d == 32) && decide (((⟨#[32, 32, 32, 32, 32, 32]⟩ : ByteArray).extract 0 g).size ≤ 6)) = true := by decide +kernel
  have h1 := List.all_eq_true.1 hk g (List.mem_range.2 h)
  rw [Bool.and_eq_true] at h1
  exact ⟨fun d hd => by simpa using List.all_eq_true.1 h1.1 d hd, of_decide_eq_true h1.2⟩
/-- What the law's four texts say. -/
theorem four {s t b : ByteArray} (hs : GoodT s.data.toList 6) (ht : GoodT t.data.toList 6) (zs : s.size ≤ 924) (zt : t.size ≤ 924) (hb : ∀ d ∈ b.data.toList, d = 32) (zb : b.size ≤ 6) :
    ∃ lx lz lu, (∀ W, Env W → Calls Tryz.prog 30 #[.string (s ++ ⟨#[124, 124]⟩ ++ t)] W fun e w' => ∃ ad n cp, e = .returned (.tuple #[.slice ad n cp, .int .i64 0, .int .i64 0]) ∧ SR w' ad n lx 70 ∧ RowKit.Below W.heap.size W w') ∧
      (∀ W, Env W → Calls Tryz.prog 30 #[.string (b ++ t ++ b ++ ⟨#[124, 124]⟩ ++ b ++ s ++ b)] W fun e w' => ∃ ad n cp, e = .returned (.tuple #[.slice ad n cp, .int .i64 0, .int .i64 0]) ∧ SR w' ad n lx 70 ∧ RowKit.Below W.heap.size W w') ∧
      (∀ W, Env W → Calls Tryz.prog 30 #[.string s] W fun e w' => ∃ ad n cp, e = .returned (.tuple #[.slice ad n cp, .int .i64 0, .int .i64 0]) ∧ SR w' ad n lz 70 ∧ RowKit.Below W.heap.size W w') ∧
      (∀ W, Env W → Calls Tryz.prog 30 #[.string t] W fun e w' => ∃ ad n cp, e = .returned (.tuple #[.slice ad n cp, .int .i64 0, .int .i64 0]) ∧ SR w' ad n lu 70 ∧ RowKit.Below W.heap.size W w') ∧
      lx = Sp.nrm [lz, lu].flatten := by
  obtain ⟨⟨qs, ps, fs⟩, asc⟩ := hs
  obtain ⟨⟨rs, pt, ft⟩, at_⟩ := ht
  have e2 : (⟨#[124, 124]⟩ : ByteArray).size = 2 := rfl
  have ab : ∀ c ∈ b.data.toList, c.toNat < 128 := fun c hc => by rw [hb c hc]; decide
  have a2 : ∀ c ∈ (⟨#[124, 124]⟩ : ByteArray).data.toList, c.toNat < 128 := by decide
  have dx : (s ++ ⟨#[124, 124]⟩ ++ t).data.toList = s.data.toList ++ 124 :: 124 :: t.data.toList := by rw [ba_app, ba_app]; simp
  have dy : (b ++ t ++ b ++ ⟨#[124, 124]⟩ ++ b ++ s ++ b).data.toList = (b.data.toList ++ t.data.toList ++ b.data.toList) ++ 124 :: 124 :: (b.data.toList ++ s.data.toList ++ b.data.toList) := by simp only [ba_app]; simp
  have px := ps.join pt
  have py := ((pt.left hb).right hb).join ((ps.left hb).right hb)
  have fx := fs.join ft
  have fy := ft.join fs
  have exy : Sp.nrm ((rs ++ qs).map Sp.allL).flatten = Sp.nrm ((qs ++ rs).map Sp.allL).flatten := by
    rw [List.map_append, List.map_append, List.flatten_append, List.flatten_append]; exact nrm_swap
  have exz : Sp.nrm ((qs ++ rs).map Sp.allL).flatten = Sp.nrm [Sp.nrm (qs.map Sp.allL).flatten, Sp.nrm (rs.map Sp.allL).flatten].flatten := by
    rw [List.map_append, List.flatten_append]; exact nrm_two_nrm
  refine ⟨_, _, _, fun W he => ?_, fun W he => ?_, fun W he => ?_, fun W he => ?_, exz⟩
  · refine parseB_sl 70 _ _ _ W he ?_ ?_ (by rw [dx]; exact Sp.parse_parts px) (fine_row fx).1 (Nat.le_trans (fine_row fx).2 (by omega))
    · rw [ByteArray.size_append, ByteArray.size_append, e2]; omega
    · rw [ba_app, ba_app]; exact asc_app (asc_app asc a2) at_
  · refine parseB_sl 70 _ _ _ W he ?_ ?_ (by rw [dy, ← exy]; exact Sp.parse_parts py) (fine_row fx).1 (Nat.le_trans (fine_row fx).2 (by omega))
    · simp only [ByteArray.size_append, e2]; omega
    · simp only [ba_app]; exact asc_app (asc_app (asc_app (asc_app (asc_app (asc_app ab at_) ab) a2) ab) asc) ab
  · exact parseB_sl 70 _ _ _ W he (by omega) asc (Sp.parse_parts ps) (fine_row fs).1 (Nat.le_trans (fine_row fs).2 (by omega))
  · exact parseB_sl 70 _ _ _ W he (by omega) at_ (Sp.parse_parts pt) (fine_row ft).1 (Nat.le_trans (fine_row ft).2 (by omega))

set_option maxHeartbeats 16000000 in
set_option maxRecDepth 100000 in
theorem walk (a0 : Option Addr) (len0 cap0 : Nat) (z0 : List Int) (a1 : Option Addr) (len1 cap1 : Nat) (z1 : List Int) (a2 : Int) (w : World) (he : Env w) (w0 : IsRow .i64 w a0 len0 cap0 z0) (w1 : IsRow .i64 w a1 len1 cap1 z1) (h2 : -9223372036854775808 ≤ a2 ∧ a2 ≤ 9223372036854775807) :
    Calls Tryz.prog 12 #[.slice a0 len0 cap0, .slice a1 len1 cap1, .int .i64 a2] w fun e w' => e = .returned (.bool true) ∧ RowKit.Below w.heap.size w w' := by
  have HE := hide he
  have R0 := hide w0.row
  have R1 := hide w1.row
  have CG : Hid (∀ W, Calls Tryz.prog 29 #[.int .i64 a2, .int .i64 6] W fun e w' => ∃ j : Nat, e = .returned (.int .i64 j) ∧ (j : Int) < 6 ∧ Hid ((j : Int) = a2 % 6) ∧ w' = W) := fun W => within3 a2 6 W (by omega) (by omega) h2.1 h2.2
  clear he w0 w1 h2
  go_enter Tryz.func12, Tryz.ntmps12
  go_wp2_with fail
  refine (known3_any w HE.out).mono ?_
  rintro e W0 ⟨rfl, b⟩
  have B := hide b
  clear b
  go_wp2_with fail
  refine (words3_any _ _ _ _ _ (R0.out.later B.out)).mono ?_
  rintro e W1 ⟨s, rfl, zs, GS, b⟩
  replace B := hide (step B.out b)
  clear b
  go_wp2_with fail
  refine (words3_any _ _ _ _ _ (R1.out.later B.out)).mono ?_
  rintro e W2 ⟨t, rfl, zt, GT, b⟩
  replace B := hide (step B.out b)
  clear b
  have HZ := hide (And.intro zs zt)
  clear zs zt
  go_wp2_with fail
  refine (CG.out _).mono ?_
  rintro e W3 ⟨g, rfl, hg, -, rfl⟩
  have g0 : (0 : Int) ≤ (g : Int) := by omega
  have g1 : (g : Int) ≤ 6 := by omega
  have n1 : ¬ 9223372036854775807 < s.size + 2 := by have := HZ.out; omega
  have n2 : ¬ 9223372036854775807 < s.size + 2 + t.size := by have := HZ.out; omega
  clear CG
  have HG := hide (bl_g g (by omega))
  go_wp2_with fail
  generalize (⟨#[32, 32, 32, 32, 32, 32]⟩ : ByteArray).extract 0 g = bb at *
  obtain ⟨lx, lz, lu, cx0, cy0, cz0, cu0, eq0⟩ := four GS.out GT.out HZ.out.1 HZ.out.2 HG.out.1 HG.out.2
  have CX := hide cx0
  have CY := hide cy0
  have CZ := hide cz0
  have CU := hide cu0
  have EQ := hide eq0
  clear cx0 cy0 cz0 cu0 eq0 n1 n2 g0 g1 hg
  refine (CX.out _ (HE.out.later B.out)).mono ?_
  rintro e W4 ⟨adx, nx, cx, rfl, r, b⟩
  replace B := hide (step B.out b)
  have Sx := hide r
  clear b r
  have hz1 := HZ.out.1
  have hz2 := HZ.out.2
  have hz3 := HG.out.2
  have n1 : ¬ 9223372036854775807 < bb.size + t.size := by omega
  have n2 : ¬ 9223372036854775807 < bb.size + t.size + bb.size := by omega
  have n3 : ¬ 9223372036854775807 < bb.size + t.size + bb.size + 2 := by omega
  have n4 : ¬ 9223372036854775807 < bb.size + t.size + bb.size + 2 + bb.size := by omega
  have n5 : ¬ 9223372036854775807 < bb.size + t.size + bb.size + 2 + bb.size + s.size := by omega
  have n6 : ¬ 9223372036854775807 < bb.size + t.size + bb.size + 2 + bb.size + s.size + bb.size := by omega
  clear hz1 hz2 hz3
  go_wp2_with fail
  refine (CY.out _ (HE.out.later B.out)).mono ?_
  rintro e W5 ⟨ady, ny, cy, rfl, r, b⟩
  replace B := hide (step B.out b)
  replace Sx := hide (Sx.out.later b)
  have Sy := hide r
  clear b r n1 n2 n3 n4 n5 n6
  go_wp2_with fail
  refine (CZ.out _ (HE.out.later B.out)).mono ?_
  rintro e W6 ⟨adz, nz, cz, rfl, r, b⟩
  replace B := hide (step B.out b)
  replace Sx := hide (Sx.out.later b)
  replace Sy := hide (Sy.out.later b)
  have Sz := hide r
  clear b r
  go_wp2_with fail
  refine (CU.out _ (HE.out.later B.out)).mono ?_
  rintro e W7 ⟨adu, nu, cu, rfl, r, b⟩
  replace B := hide (step B.out b)
  replace Sx := hide (Sx.out.later b)
  replace Sy := hide (Sy.out.later b)
  replace Sz := hide (Sz.out.later b)
  have Su := hide r
  clear b r CX CY CZ CU
  go_wp2_with fail
  refine (same_sl _ _ _ _ _ _ _ _ _ _ _ Sx.out Sy.out (by omega) rfl).mono ?_
  rintro e W8 ⟨rfl, b⟩
  replace B := hide (step B.out b)
  replace Sx := hide (Sx.out.later b)
  replace Sz := hide (Sz.out.later b)
  replace Su := hide (Su.out.later b)
  clear b
  go_wp2_with fail
  refine (or2_sl _ (HE.out.later B.out) _ _ _ _ _ _ _ _ 70 70 Sz.out Su.out (by omega) (by omega)).mono ?_
  rintro e W9 ⟨ado, no, co, rfl, r, b⟩
  replace B := hide (step B.out b)
  replace Sx := hide (Sx.out.later b)
  have So := hide r
  clear b r
  go_wp2_with fail
  refine (same_sl _ _ _ _ _ _ _ _ _ _ _ Sx.out So.out (by omega) EQ.out).mono ?_
  rintro e W10 ⟨rfl, b⟩
  replace B := hide (step B.out b)
  clear b
  go_wp2_with fail
  go_ret
  exact ⟨rfl, B.out⟩
end Go.Proofs.YtohnlhfgajipgaaGreatDoor.spanBlanks

namespace Go.Proofs.YtohnlhfgajipgaaGreatDoor.spanBlanks
open Go.ChangeShapes Go.WideShapes Go.ChangeAt Go.RowKit
open Go.ChangeMaps (open_string shut_string)
set_option linter.unusedVariables false

theorem own : ownKnob Tryz.prog.godebug = none := by kernel_rfl
theorem laidOut : laidOutB Tryz.prog = true := by kernel_rfl

set_option maxRecDepth 100000 in
theorem lifted (os : Os) (started : os.Started) (H : Type) (enc : TypeId × Value → H) :
    ReturnsInHanded {} Tryz.checked os 12 .any (fun w args => (Rows.spanBlanksSpec.pre enc Tryz.prog Tryz.f12 Rows.spanBlanksRow.domain false w args ∧ laidMetH Tryz.prog Rows.spanBlanksRow.laid w) ∧ sizedMet enc Tryz.prog Tryz.f12 (OpenSpec.ofChange Rows.spanBlanksSpec) false w args) (Rows.spanBlanksSpec.post enc Tryz.prog Tryz.f12 false true false false) := by
  refine handed_laid_shaped (C := Tryz.checked) (laid := Rows.spanBlanksRow.laid) own started (by kernel_rfl) Tryz.func12
    (ChangeSpec.witness_shaped (enc := enc) (C := Tryz.checked) (os := os) (X := fun w _ => laidMetH Tryz.prog Rows.spanBlanksRow.laid w) false (World.laidAll Tryz.prog os Rows.spanBlanksRow.laid) #[.slice none 0 0, .slice none 0 0, .int .i64 0] 8 (World.laidAll_os _ _ _)
      (World.shaped_of_ZipB (by kernel_rfl) (by kernel_rfl)) (by kernel_rfl) (by kernel_rfl) (by kernel_rfl)
      (by rw [MakeChecks.laidMetH_plain _ _ _ (by kernel_rfl)]; exact laidMet_laidAll _ (by kernel_rfl) (by kernel_rfl))) ?_
  intro W base args ds gs before hval0 hW hsz0 hL hS
  have hE : Env W := env_of hL hS
  have hval : ∀ (j : Nat) t v, Tryz.f12.params[j]? = some t → args[j]? = some v → Value.okWide Tryz.prog W .any base t v := hval0
  have hW' := hW
  obtain ⟨p, q, hA0, hV, rfl, hfz, hnd⟩ := hW
  have hA : DataW.TrodAll enc Tryz.prog W 0 (fun _ => true) true Tryz.f12.params.toList args.toList ds p := hA0
  rw [Tryz.params12] at hA hval
  obtain ⟨v0, vs0, d0, ds0, p0, q0, hargs, rfl, rfl, h0, r0⟩ := trodAll_cons hA
  obtain ⟨v1, vs1, d1, ds1, p1, q1, rfl, rfl, rfl, h1, r1⟩ := trodAll_cons r0
  obtain ⟨v2, vs2, d2, ds2, p2, q2, rfl, rfl, rfl, h2, r2⟩ := trodAll_cons r1
  obtain ⟨rfl, rfl, rfl⟩ := trodAll_nil r2
  obtain rfl : args = #[v0, v1, v2] := by cases args; simp_all
  obtain ⟨rfl, rfl⟩ := trodVars_none hV
  obtain ⟨a0, len0, cap0, rfl⟩ := okWide_slice Tryz.underlying22 (hval 0 22 v0 rfl rfl)
  have k0 := h0
  have lt0 : ∀ x ∈ p0, x.block < W.heap.size := by obtain ⟨m, hm⟩ := k0; exact DataW.trod_lt m _ _ _ hm
  obtain ⟨z0, w0⟩ : ∃ zs, IsRow .i64 W a0 len0 cap0 zs := by
    obtain ⟨fuel, hf⟩ := h0
    rcases open_ints Tryz.underlying22 Tryz.underlying3 (by kernel_rfl) hf with ⟨hcs, _⟩ | ⟨x, l, c, zs, hcs, _, hl, hm, hz, _, hcell, hwz⟩
    · simp [Value.cells] at hcs
      obtain ⟨rfl, rfl, rfl⟩ := hcs
      exact ⟨[], .inl ⟨rfl, rfl, rfl, rfl⟩⟩
    · simp [Value.cells] at hcs
      obtain ⟨rfl, rfl, rfl⟩ := hcs
      exact ⟨zs, .inr ⟨_, rfl, hl, hm, by simpa using hz, hcell, hwz⟩⟩
  obtain ⟨a1, len1, cap1, rfl⟩ := okWide_slice Tryz.underlying22 (hval 1 22 v1 rfl rfl)
  have k1 := h1
  have lt1 : ∀ x ∈ p1, x.block < W.heap.size := by obtain ⟨m, hm⟩ := k1; exact DataW.trod_lt m _ _ _ hm
  obtain ⟨z1, w1⟩ : ∃ zs, IsRow .i64 W a1 len1 cap1 zs := by
    obtain ⟨fuel, hf⟩ := h1
    rcases open_ints Tryz.underlying22 Tryz.underlying3 (by kernel_rfl) hf with ⟨hcs, _⟩ | ⟨x, l, c, zs, hcs, _, hl, hm, hz, _, hcell, hwz⟩
    · simp [Value.cells] at hcs
      obtain ⟨rfl, rfl, rfl⟩ := hcs
      exact ⟨[], .inl ⟨rfl, rfl, rfl, rfl⟩⟩
    · simp [Value.cells] at hcs
      obtain ⟨rfl, rfl, rfl⟩ := hcs
      exact ⟨zs, .inr ⟨_, rfl, hl, hm, by simpa using hz, hcell, hwz⟩⟩
  obtain ⟨a2, rfl, rfl, rfl, w2⟩ := open_int Tryz.underlying3 (hval 2 3 v2 rfl rfl) h2
  clear hA0 hval0
  refine (walk a0 len0 cap0 z0 a1 len1 cap1 z1 a2 W hE w0 w1 (Go.bounds_i64 w2)).mono fun e W' ⟨he, bel⟩ => ?_
  subst he
  exact ⟨_, rfl, _, _, _, [], _, [], hW', trodAll_mk1 (shut_bool Tryz.underlying4 _), (trodAll_cons_mk (Below.trod laidOut (by kernel_rfl) (of_decide_eq_true (by kernel_rfl)) k0 bel lt0) (trodAll_cons_mk (Below.trod laidOut (by kernel_rfl) (of_decide_eq_true (by kernel_rfl)) k1 bel lt1) (trodAll_cons_mk (shut_int Tryz.underlying3 w2) trodAll_mk0))), rfl, bel.frame _, fun h => by cases h⟩

theorem holds : Rows.SpanBlanksSaid :=
  OpenClaim.holds_of_wide 12 Tryz.f12 rfl rfl rfl rfl rfl rfl rfl ⟨rfl, rfl, rfl, rfl, rfl⟩ rfl rfl rfl rfl rfl (by kernel_rfl) Tryz.func12 (by kernel_rfl)
    (of_decide_eq_true (by kernel_rfl)) (by unfold Func.isWrapper; first | (rw [if_pos (by decide +kernel)]; kernel_rfl) | (rw [if_neg (by decide +kernel)]; exact ⟨rfl, rfl⟩))
    (fun os started H enc _ => lifted os started H enc)

theorem proved : Rows.SpanBlanksCardSaid :=
  Claim7.holds_tied_plain_at .later [] [.data, .data, .data, .data, .sentinel, .sentinel, .pinned] true (true, "677dda388697c3be81f00c8f3e7162a91e326615aec89fc25f0adc6f7f408f5b") true holds (fun _ h => by cases h) (by kernel_rfl) (fun _ h => by cases h) spanBlanks_row_tie rfl ⟨rfl, rfl⟩ (by kernel_rfl) rfl
    (fun f fn hf hfn => by
      obtain rfl : f = 12 := Option.some.inj ((show Tryz.prog.funcNamed "transhumance/transhumancelaw3.SpanBlanks" = some 12 by kernel_rfl).symm.trans hf) |>.symm
      obtain rfl : fn = Tryz.f12 := (Option.some.inj (Tryz.func12.symm.trans hfn)).symm
      exact ⟨by kernel_rfl, fun j t ht => by
        rw [Tryz.params12] at ht
        have hm : t ∈ ([22, 22, 3] : List TypeId) := by simpa using Array.mem_of_getElem? ht
        have hall : (([22, 22, 3] : List TypeId).all fun u => !Tryz.prog.wantsStandIn u) = true := by kernel_rfl
        exact (show Tryz.prog.wantsStandIn t = false by simpa using List.all_eq_true.1 hall t hm)⟩)
    (by kernel_rfl)

end Go.Proofs.YtohnlhfgajipgaaGreatDoor.spanBlanks
