/-
  The walk of SpanTexts.
  SpanTexts: any spans are written as the document says, unlike ones unlike: for every input the law answers true, and its arguments read afterwards as before. The library's variables as the program's text lays them.
-/
import Derived.Test.YtohnlhfgajipgaaGreatDoorG31
import Derived.Test.YtohnlhfgajipgaaGreatDoorG32
import Derived.Test.YtohnlhfgajipgaaGreatDoorTie
import Derived.Test.YtohnlhfgajipgaaGreatDoorCards
import Derived.Test.YtohnlhfgajipgaaGreatDoorG08
import Derived.ProofKit
import Derived.OpenShut
import Derived.ShutString
import Derived.LaidMore
import Derived.Lay
import Derived.SevenTiedAt
import Derived.Stop.Joined

namespace Go.Proofs.YtohnlhfgajipgaaGreatDoor
set_option linter.unusedSimpArgs false
set_option linter.unusedVariables false
open Go.RowKit Go.Vr Go.Sort Go.Tx Go.Lib
theorem stext_sl (W : World) (he : Env W) (ad : Option Addr) (n cp : Nat) (l : List Sp.S) (B : Nat) (h : SR W ad n l B) (hB : B ≤ 1000) :
    Calls Tryz.prog 34 #[.slice ad n cp] W fun e w' => e = .returned (.string (str (tAll l))) ∧ RowKit.Below W.heap.size W w' := by
  have hle := h.le
  exact stext_any ad n cp l W h.r (by omega) h.row.ok he
theorem rtext_sl (W : World) (ad : Option Addr) (n cp : Nat) (l : List Sp.S) (B : Nat) (h : SR W ad n l B) (hB : B ≤ 1000) :
    Calls Tryz.prog 35 #[.slice ad n cp] W fun e w' => e = .returned (.string (str (tAll l))) ∧ RowKit.Below W.heap.size W w' := by
  have hle := h.le
  exact rtextL_any ad n cp l W h.r (by omega) h.row.ok
theorem differ_sl (W : World) (ad ad' : Option Addr) (n n' cp cp' : Nat) (l k : List Sp.S) (B B' : Nat) (h : SR W ad n l B) (h' : SR W ad' n' k B') (hB : B ≤ 5000) (e : l ≠ k) :
    Calls Tryz.prog 19 #[.slice ad n cp, .slice ad' n' cp'] W fun e w' => e = .returned (.bool false) ∧ RowKit.Below W.heap.size W w' := by
  have hle := h.le
  have := rsame_any ad ad' n n' cp cp' l k W h.r h'.r (by omega) h.row.ok h'.row.ok
  rw [decide_eq_false e] at this
  exact this
theorem texts_ne {l k : List Sp.S} (hl : Sp.okL l) (hk : Sp.okL k) (h : l ≠ k) : ¬ (str (tAll l)).toList = (str (tAll k)).toList := by
  rw [toList_data, toList_data, str_list, str_list]
  exact fun e => h (tAll_inj hl hk e)
end Go.Proofs.YtohnlhfgajipgaaGreatDoor
namespace Go.Proofs.YtohnlhfgajipgaaGreatDoor.spanTexts
open Go.RowKit Go.Vr Go.Sort Go.Tx Go.Lib
attribute [local go_sem] setCellDrewN allocDrewN

set_option maxHeartbeats 16000000 in
set_option maxRecDepth 100000 in
theorem walk (a0 : Option Addr) (len0 cap0 : Nat) (z0 : List Int) (a1 : Option Addr) (len1 cap1 : Nat) (z1 : List Int) (w : World) (he : Env w) (w0 : IsRow .i64 w a0 len0 cap0 z0) (w1 : IsRow .i64 w a1 len1 cap1 z1) :
    Calls Tryz.prog 7 #[.slice a0 len0 cap0, .slice a1 len1 cap1] w fun e w' => e = .returned (.bool true) ∧ RowKit.Below w.heap.size w w' := by
  have HE := hide he
  have R0 := hide w0.row
  have R1 := hide w1.row
  clear he w0 w1
  go_enter Tryz.func7, Tryz.ntmps7
  go_wp2_with fail
  refine (known3_any w HE.out).mono ?_
  rintro e W0 ⟨rfl, b⟩
  have B := hide b
  clear b
  go_wp2_with fail
  refine (mk_sl _ _ _ _ _ (R0.out.later B.out)).mono ?_
  rintro e W1 ⟨ada, na, ca, la, rfl, r, b⟩
  replace B := hide (step B.out b)
  have Sa := hide r
  clear b r
  go_wp2_with fail
  refine (mk_sl _ _ _ _ _ (R1.out.later B.out)).mono ?_
  rintro e W2 ⟨adb, nb, cb, lb, rfl, r, b⟩
  replace Sa := hide (Sa.out.later b)
  replace B := hide (step B.out b)
  have Sb := hide r
  clear b r
  have CA : Hid (∀ W, Env W → SR W ada na la 7 → Calls Tryz.prog 34 #[.slice ada na ca] W fun e w' => e = .returned (.string (str (tAll la))) ∧ RowKit.Below W.heap.size W w') := fun W h1 h2 => stext_sl W h1 _ _ _ _ _ h2 (by omega)
  have CR : Hid (∀ W, SR W ada na la 7 → Calls Tryz.prog 35 #[.slice ada na ca] W fun e w' => e = .returned (.string (str (tAll la))) ∧ RowKit.Below W.heap.size W w') := fun W h2 => rtext_sl W _ _ _ _ _ h2 (by omega)
  by_cases hab : la = lb
  · subst hab
    have CB : Hid (∀ W, Env W → SR W adb nb la 7 → Calls Tryz.prog 34 #[.slice adb nb cb] W fun e w' => e = .returned (.string (str (tAll la))) ∧ RowKit.Below W.heap.size W w') := fun W h1 h2 => stext_sl W h1 _ _ _ _ _ h2 (by omega)
    have CS : Hid (∀ W, SR W ada na la 7 → SR W adb nb la 7 → Calls Tryz.prog 19 #[.slice ada na ca, .slice adb nb cb] W fun e w' => e = .returned (.bool true) ∧ RowKit.Below W.heap.size W w') := fun W h1 h2 => same_sl W _ _ _ _ _ _ _ _ _ _ h1 h2 (by omega) rfl
    generalize str (tAll la) = sa at *
    go_wp2_with fail
    refine (CA.out _ (HE.out.later B.out) Sa.out).mono ?_
    rintro e W11 ⟨rfl, b⟩
    replace Sa := hide (Sa.out.later b)
    replace Sb := hide (Sb.out.later b)
    replace B := hide (step B.out b)
    clear b
    go_wp2_with fail
    refine (CR.out _ Sa.out).mono ?_
    rintro e W12 ⟨rfl, b⟩
    replace Sa := hide (Sa.out.later b)
    replace Sb := hide (Sb.out.later b)
    replace B := hide (step B.out b)
    clear b
    go_wp2_with fail
    refine (CA.out _ (HE.out.later B.out) Sa.out).mono ?_
    rintro e W13 ⟨rfl, b⟩
    replace Sa := hide (Sa.out.later b)
    replace Sb := hide (Sb.out.later b)
    replace B := hide (step B.out b)
    clear b
    go_wp2_with fail
    refine (CB.out _ (HE.out.later B.out) Sb.out).mono ?_
    rintro e W14 ⟨rfl, b⟩
    replace Sa := hide (Sa.out.later b)
    replace Sb := hide (Sb.out.later b)
    replace B := hide (step B.out b)
    clear b
    go_wp2_with fail
    refine (CS.out _ Sa.out Sb.out).mono ?_
    rintro e W15 ⟨rfl, b⟩
    replace Sa := hide (Sa.out.later b)
    replace Sb := hide (Sb.out.later b)
    replace B := hide (step B.out b)
    clear b
    go_wp2_with fail
    go_ret
    exact ⟨rfl, B.out⟩
  · have CB : Hid (∀ W, Env W → SR W adb nb lb 7 → Calls Tryz.prog 34 #[.slice adb nb cb] W fun e w' => e = .returned (.string (str (tAll lb))) ∧ RowKit.Below W.heap.size W w') := fun W h1 h2 => stext_sl W h1 _ _ _ _ _ h2 (by omega)
    have CS : Hid (∀ W, SR W ada na la 7 → SR W adb nb lb 7 → Calls Tryz.prog 19 #[.slice ada na ca, .slice adb nb cb] W fun e w' => e = .returned (.bool false) ∧ RowKit.Below W.heap.size W w') := fun W h1 h2 => differ_sl W _ _ _ _ _ _ _ _ _ _ h1 h2 (by omega) hab
    have hne := texts_ne Sa.out.row.ok Sb.out.row.ok hab
    clear hab
    generalize str (tAll la) = sa at *
    generalize str (tAll lb) = sb at *
    have hne2 : (sa.toList == sb.toList) = false := by simpa using hne
    go_wp2_with fail
    refine (CA.out _ (HE.out.later B.out) Sa.out).mono ?_
    rintro e W11 ⟨rfl, b⟩
    replace Sa := hide (Sa.out.later b)
    replace Sb := hide (Sb.out.later b)
    replace B := hide (step B.out b)
    clear b
    go_wp2_with fail
    refine (CR.out _ Sa.out).mono ?_
    rintro e W12 ⟨rfl, b⟩
    replace Sa := hide (Sa.out.later b)
    replace Sb := hide (Sb.out.later b)
    replace B := hide (step B.out b)
    clear b
    go_wp2_with fail
    refine (CA.out _ (HE.out.later B.out) Sa.out).mono ?_
    rintro e W13 ⟨rfl, b⟩
    replace Sa := hide (Sa.out.later b)
    replace Sb := hide (Sb.out.later b)
    replace B := hide (step B.out b)
    clear b
    go_wp2_with fail
    refine (CB.out _ (HE.out.later B.out) Sb.out).mono ?_
    rintro e W14 ⟨rfl, b⟩
    replace Sa := hide (Sa.out.later b)
    replace Sb := hide (Sb.out.later b)
    replace B := hide (step B.out b)
    clear b
    go_wp2_with fail
    refine (CS.out _ Sa.out Sb.out).mono ?_
    rintro e W15 ⟨rfl, b⟩
    replace Sa := hide (Sa.out.later b)
    replace Sb := hide (Sb.out.later b)
    replace B := hide (step B.out b)
    clear b
    go_wp2_with fail
    go_ret
    exact ⟨rfl, B.out⟩

end Go.Proofs.YtohnlhfgajipgaaGreatDoor.spanTexts

namespace Go.Proofs.YtohnlhfgajipgaaGreatDoor.spanTexts
open Go.ChangeShapes Go.WideShapes Go.ChangeAt Go.RowKit
open Go.ChangeMaps (open_string shut_string)
set_option linter.unusedVariables false

theorem own : ownKnob Tryz.prog.godebug = none := by kernel_rfl
theorem laidOut : laidOutB Tryz.prog = true := by kernel_rfl

set_option maxRecDepth 100000 in
theorem lifted (os : Os) (started : os.Started) (H : Type) (enc : TypeId × Value → H) :
    ReturnsInHanded {} Tryz.checked os 7 .any (fun w args => (Rows.spanTextsSpec.pre enc Tryz.prog Tryz.f7 Rows.spanTextsRow.domain false w args ∧ laidMetH Tryz.prog Rows.spanTextsRow.laid w) ∧ sizedMet enc Tryz.prog Tryz.f7 (OpenSpec.ofChange Rows.spanTextsSpec) false w args) (Rows.spanTextsSpec.post enc Tryz.prog Tryz.f7 false true false false) := by
  refine handed_laid_shaped (C := Tryz.checked) (laid := Rows.spanTextsRow.laid) own started (by kernel_rfl) Tryz.func7
    (ChangeSpec.witness_shaped (enc := enc) (C := Tryz.checked) (os := os) (X := fun w _ => laidMetH Tryz.prog Rows.spanTextsRow.laid w) false (World.laidAll Tryz.prog os Rows.spanTextsRow.laid) #[.slice none 0 0, .slice none 0 0] 8 (World.laidAll_os _ _ _)
      (World.shaped_of_ZipB (by kernel_rfl) (by kernel_rfl)) (by kernel_rfl) (by kernel_rfl) (by kernel_rfl)
      (by rw [MakeChecks.laidMetH_plain _ _ _ (by kernel_rfl)]; exact laidMet_laidAll _ (by kernel_rfl) (by kernel_rfl))) ?_
  intro W base args ds gs before hval0 hW hsz0 hL hS
  have hE : Env W := env_of hL hS
  have hval : ∀ (j : Nat) t v, Tryz.f7.params[j]? = some t → args[j]? = some v → Value.okWide Tryz.prog W .any base t v := hval0
  have hW' := hW
  obtain ⟨p, q, hA0, hV, rfl, hfz, hnd⟩ := hW
  have hA : DataW.TrodAll enc Tryz.prog W 0 (fun _ => true) true Tryz.f7.params.toList args.toList ds p := hA0
  rw [Tryz.params7] at hA hval
  obtain ⟨v0, vs0, d0, ds0, p0, q0, hargs, rfl, rfl, h0, r0⟩ := trodAll_cons hA
  obtain ⟨v1, vs1, d1, ds1, p1, q1, rfl, rfl, rfl, h1, r1⟩ := trodAll_cons r0
  obtain ⟨rfl, rfl, rfl⟩ := trodAll_nil r1
  obtain rfl : args = #[v0, v1] := by cases args; simp_all
  obtain ⟨rfl, rfl⟩ := trodVars_none hV
  obtain ⟨a0, len0, cap0, rfl⟩ := okWide_slice Tryz.underlying22 (hval 0 22 v0 rfl rfl)
  have k0 := h0
  have lt0 : ∀ x ∈ p0, x.block < W.heap.size := by obtain ⟨m, hm⟩ := k0; exact DataW.trod_lt m _ _ _ hm
  obtain ⟨z0, w0⟩ : ∃ zs, IsRow .i64 W a0 len0 cap0 zs := by
    obtain ⟨fuel, hf⟩ := h0
    rcases open_ints Tryz.underlying22 Tryz.underlying3 (by kernel_rfl) hf with ⟨hcs, _⟩ | ⟨x, l, c, zs, hcs, _, hl, hm, hz, _, hcell, hwz⟩
    · simp [Value.cells] at hcs
      obtain ⟨rfl, rfl, rfl⟩ := hcs
      exact ⟨[], .inl ⟨rfl, rfl, rfl, rfl⟩⟩
    · simp [Value.cells] at hcs
      obtain ⟨rfl, rfl, rfl⟩ := hcs
      exact ⟨zs, .inr ⟨_, rfl, hl, hm, by simpa using hz, hcell, hwz⟩⟩
  obtain ⟨a1, len1, cap1, rfl⟩ := okWide_slice Tryz.underlying22 (hval 1 22 v1 rfl rfl)
  have k1 := h1
  have lt1 : ∀ x ∈ p1, x.block < W.heap.size := by obtain ⟨m, hm⟩ := k1; exact DataW.trod_lt m _ _ _ hm
  obtain ⟨z1, w1⟩ : ∃ zs, IsRow .i64 W a1 len1 cap1 zs := by
    obtain ⟨fuel, hf⟩ := h1
    rcases open_ints Tryz.underlying22 Tryz.underlying3 (by kernel_rfl) hf with ⟨hcs, _⟩ | ⟨x, l, c, zs, hcs, _, hl, hm, hz, _, hcell, hwz⟩
    · simp [Value.cells] at hcs
      obtain ⟨rfl, rfl, rfl⟩ := hcs
      exact ⟨[], .inl ⟨rfl, rfl, rfl, rfl⟩⟩
    · simp [Value.cells] at hcs
      obtain ⟨rfl, rfl, rfl⟩ := hcs
      exact ⟨zs, .inr ⟨_, rfl, hl, hm, by simpa using hz, hcell, hwz⟩⟩
  clear hA0 hval0
  refine (walk a0 len0 cap0 z0 a1 len1 cap1 z1 W hE w0 w1).mono fun e W' ⟨he, bel⟩ => ?_
  subst he
  exact ⟨_, rfl, _, _, _, [], _, [], hW', trodAll_mk1 (shut_bool Tryz.underlying4 _), (trodAll_cons_mk (Below.trod laidOut (by kernel_rfl) (of_decide_eq_true (by kernel_rfl)) k0 bel lt0) (trodAll_cons_mk (Below.trod laidOut (by kernel_rfl) (of_decide_eq_true (by kernel_rfl)) k1 bel lt1) trodAll_mk0)), rfl, bel.frame _, fun h => by cases h⟩

theorem holds : Rows.SpanTextsSaid :=
  OpenClaim.holds_of_wide 7 Tryz.f7 rfl rfl rfl rfl rfl rfl rfl ⟨rfl, rfl, rfl, rfl, rfl⟩ rfl rfl rfl rfl rfl (by kernel_rfl) Tryz.func7 (by kernel_rfl)
    (of_decide_eq_true (by kernel_rfl)) (by unfold Func.isWrapper; first | (rw [if_pos (by decide +kernel)]; kernel_rfl) | (rw [if_neg (by decide +kernel)]; exact ⟨rfl, rfl⟩))
    (fun os started H enc _ => lifted os started H enc)

theorem proved : Rows.SpanTextsCardSaid :=
  Claim7.holds_tied_plain_at .later [] [.data, .data, .data, .data, .sentinel, .sentinel, .pinned] true (true, "677dda388697c3be81f00c8f3e7162a91e326615aec89fc25f0adc6f7f408f5b") true holds (fun _ h => by cases h) (by kernel_rfl) (fun _ h => by cases h) spanTexts_row_tie rfl ⟨rfl, rfl⟩ (by kernel_rfl) rfl
    (fun f fn hf hfn => by
      obtain rfl : f = 7 := Option.some.inj ((show Tryz.prog.funcNamed "transhumance/transhumancelaw3.SpanTexts" = some 7 by kernel_rfl).symm.trans hf) |>.symm
      obtain rfl : fn = Tryz.f7 := (Option.some.inj (Tryz.func7.symm.trans hfn)).symm
      exact ⟨by kernel_rfl, fun j t ht => by
        rw [Tryz.params7] at ht
        have hm : t ∈ ([22, 22] : List TypeId) := by simpa using Array.mem_of_getElem? ht
        have hall : (([22, 22] : List TypeId).all fun u => !Tryz.prog.wantsStandIn u) = true := by kernel_rfl
        exact (show Tryz.prog.wantsStandIn t = false by simpa using List.all_eq_true.1 hall t hm)⟩)
    (by kernel_rfl)

end Go.Proofs.YtohnlhfgajipgaaGreatDoor.spanTexts
