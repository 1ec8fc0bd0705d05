/-
  The walk of SpanTexts.
-/
import Derived.Test.YtmaklmgjkmbedaaGreatDoorQ6
import Derived.Test.YtmaklmgjkmbedaaGreatDoorQ7
namespace Go.Proofs.YtmaklmgjkmbedaaGreatDoor
set_option linter.unusedSimpArgs false
set_option linter.unusedVariables false
open Go.RowKit Go.Vr Go.Sort Go.Tx Go.Lib
theorem stext_sl (W : World) (he : Env W) (ad : Option Addr) (n cp : Nat) (l : List Sp.S) (B : Nat) (h : SR W ad n l B) (hB : B ≤ 1000) :
    Calls Tryz.prog 34 #[.slice ad n cp] W fun e w' => e = .returned (.string (str (tAll l))) ∧ RowKit.Below W.heap.size W w' := by
  have hle := h.le
  exact stext_any ad n cp l W h.r (by omega) h.row.ok he
theorem rtext_sl (W : World) (ad : Option Addr) (n cp : Nat) (l : List Sp.S) (B : Nat) (h : SR W ad n l B) (hB : B ≤ 1000) :
    Calls Tryz.prog 35 #[.slice ad n cp] W fun e w' => e = .returned (.string (str (tAll l))) ∧ RowKit.Below W.heap.size W w' := by
  have hle := h.le
  exact rtextL_any ad n cp l W h.r (by omega) h.row.ok
theorem differ_sl (W : World) (ad ad' : Option Addr) (n n' cp cp' : Nat) (l k : List Sp.S) (B B' : Nat) (h : SR W ad n l B) (h' : SR W ad' n' k B') (hB : B ≤ 5000) (e : l ≠ k) :
    Calls Tryz.prog 19 #[.slice ad n cp, .slice ad' n' cp'] W fun e w' => e = .returned (.bool false) ∧ RowKit.Below W.heap.size W w' := by
  have hle := h.le
  have := rsame_any ad ad' n n' cp cp' l k W h.r h'.r (by omega) h.row.ok h'.row.ok
  rw [decide_eq_false e] at this
  exact this
theorem texts_ne {l k : List Sp.S} (hl : Sp.okL l) (hk : Sp.okL k) (h : l ≠ k) : ¬ (str (tAll l)).toList = (str (tAll k)).toList := by
  rw [toList_data, toList_data, str_list, str_list]
  exact fun e => h (tAll_inj hl hk e)
end Go.Proofs.YtmaklmgjkmbedaaGreatDoor
namespace Go.Proofs.YtmaklmgjkmbedaaGreatDoor.spanTexts
open Go.RowKit Go.Vr Go.Sort Go.Tx Go.Lib
attribute [local go_sem] setCellDrewN allocDrewN

set_option maxHeartbeats 16000000 in
set_option maxRecDepth 100000 in
theorem walk (a0 : Option Addr) (len0 cap0 : Nat) (z0 : List Int) (a1 : Option Addr) (len1 cap1 : Nat) (z1 : List Int) (w : World) (he : Env w) (w0 : IsRow .i64 w a0 len0 cap0 z0) (w1 : IsRow .i64 w a1 len1 cap1 z1) :
    Calls Tryz.prog 7 #[.slice a0 len0 cap0, .slice a1 len1 cap1] w fun e w' => e = .returned (.bool true) ∧ RowKit.Below w.heap.size w w' := by
  have HE := hide he
  have R0 := hide w0.row
  have R1 := hide w1.row
  clear he w0 w1
  go_enter Tryz.func7, Tryz.ntmps7
  go_wp2_with fail
  refine (known3_any w HE.out).mono ?_
  rintro e W0 ⟨rfl, b⟩
  have B := hide b
  clear b
  go_wp2_with fail
  refine (mk_sl _ _ _ _ _ (R0.out.later B.out)).mono ?_
  rintro e W1 ⟨ada, na, ca, la, rfl, r, b⟩
  replace B := hide (step B.out b)
  have Sa := hide r
  clear b r
  go_wp2_with fail
  refine (mk_sl _ _ _ _ _ (R1.out.later B.out)).mono ?_
  rintro e W2 ⟨adb, nb, cb, lb, rfl, r, b⟩
  replace Sa := hide (Sa.out.later b)
  replace B := hide (step B.out b)
  have Sb := hide r
  clear b r
  have CA : Hid (∀ W, Env W → SR W ada na la 7 → Calls Tryz.prog 34 #[.slice ada na ca] W fun e w' => e = .returned (.string (str (tAll la))) ∧ RowKit.Below W.heap.size W w') := fun W h1 h2 => stext_sl W h1 _ _ _ _ _ h2 (by omega)
  have CR : Hid (∀ W, SR W ada na la 7 → Calls Tryz.prog 35 #[.slice ada na ca] W fun e w' => e = .returned (.string (str (tAll la))) ∧ RowKit.Below W.heap.size W w') := fun W h2 => rtext_sl W _ _ _ _ _ h2 (by omega)
  by_cases hab : la = lb
  · subst hab
    have CB : Hid (∀ W, Env W → SR W adb nb la 7 → Calls Tryz.prog 34 #[.slice adb nb cb] W fun e w' => e = .returned (.string (str (tAll la))) ∧ RowKit.Below W.heap.size W w') := fun W h1 h2 => stext_sl W h1 _ _ _ _ _ h2 (by omega)
    have CS : Hid (∀ W, SR W ada na la 7 → SR W adb nb la 7 → Calls Tryz.prog 19 #[.slice ada na ca, .slice adb nb cb] W fun e w' => e = .returned (.bool true) ∧ RowKit.Below W.heap.size W w') := fun W h1 h2 => same_sl W _ _ _ _ _ _ _ _ _ _ h1 h2 (by omega) rfl
    generalize str (tAll la) = sa at *
    go_wp2_with fail
    refine (CA.out _ (HE.out.later B.out) Sa.out).mono ?_
    rintro e W11 ⟨rfl, b⟩
    replace Sa := hide (Sa.out.later b)
    replace Sb := hide (Sb.out.later b)
    replace B := hide (step B.out b)
    clear b
    go_wp2_with fail
    refine (CR.out _ Sa.out).mono ?_
    rintro e W12 ⟨rfl, b⟩
    replace Sa := hide (Sa.out.later b)
    replace Sb := hide (Sb.out.later b)
    replace B := hide (step B.out b)
    clear b
    go_wp2_with fail
    refine (CA.out _ (HE.out.later B.out) Sa.out).mono ?_
    rintro e W13 ⟨rfl, b⟩
    replace Sa := hide (Sa.out.later b)
    replace Sb := hide (Sb.out.later b)
    replace B := hide (step B.out b)
    clear b
    go_wp2_with fail
    refine (CB.out _ (HE.out.later B.out) Sb.out).mono ?_
    rintro e W14 ⟨rfl, b⟩
    replace Sa := hide (Sa.out.later b)
    replace Sb := hide (Sb.out.later b)
    replace B := hide (step B.out b)
    clear b
    go_wp2_with fail
    refine (CS.out _ Sa.out Sb.out).mono ?_
    rintro e W15 ⟨rfl, b⟩
    replace Sa := hide (Sa.out.later b)
    replace Sb := hide (Sb.out.later b)
    replace B := hide (step B.out b)
    clear b
    go_wp2_with fail
    go_ret
    exact ⟨rfl, B.out⟩
  · have CB : Hid (∀ W, Env W → SR W adb nb lb 7 → Calls Tryz.prog 34 #[.slice adb nb cb] W fun e w' => e = .returned (.string (str (tAll lb))) ∧ RowKit.Below W.heap.size W w') := fun W h1 h2 => stext_sl W h1 _ _ _ _ _ h2 (by omega)
    have CS : Hid (∀ W, SR W ada na la 7 → SR W adb nb lb 7 → Calls Tryz.prog 19 #[.slice ada na ca, .slice adb nb cb] W fun e w' => e = .returned (.bool false) ∧ RowKit.Below W.heap.size W w') := fun W h1 h2 => differ_sl W _ _ _ _ _ _ _ _ _ _ h1 h2 (by omega) hab
    have hne := texts_ne Sa.out.row.ok Sb.out.row.ok hab
    clear hab
    generalize str (tAll la) = sa at *
    generalize str (tAll lb) = sb at *
    have hne2 : (sa.toList == sb.toList) = false := by simpa using hne
    go_wp2_with fail
    refine (CA.out _ (HE.out.later B.out) Sa.out).mono ?_
    rintro e W11 ⟨rfl, b⟩
    replace Sa := hide (Sa.out.later b)
    replace Sb := hide (Sb.out.later b)
    replace B := hide (step B.out b)
    clear b
    go_wp2_with fail
    refine (CR.out _ Sa.out).mono ?_
    rintro e W12 ⟨rfl, b⟩
    replace Sa := hide (Sa.out.later b)
    replace Sb := hide (Sb.out.later b)
    replace B := hide (step B.out b)
    clear b
    go_wp2_with fail
    refine (CA.out _ (HE.out.later B.out) Sa.out).mono ?_
    rintro e W13 ⟨rfl, b⟩
    replace Sa := hide (Sa.out.later b)
    replace Sb := hide (Sb.out.later b)
    replace B := hide (step B.out b)
    clear b
    go_wp2_with fail
    refine (CB.out _ (HE.out.later B.out) Sb.out).mono ?_
    rintro e W14 ⟨rfl, b⟩
    replace Sa := hide (Sa.out.later b)
    replace Sb := hide (Sb.out.later b)
    replace B := hide (step B.out b)
    clear b
    go_wp2_with fail
    refine (CS.out _ Sa.out Sb.out).mono ?_
    rintro e W15 ⟨rfl, b⟩
    replace Sa := hide (Sa.out.later b)
    replace Sb := hide (Sb.out.later b)
    replace B := hide (step B.out b)
    clear b
    go_wp2_with fail
    go_ret
    exact ⟨rfl, B.out⟩

end Go.Proofs.YtmaklmgjkmbedaaGreatDoor.spanTexts
