/-
  Contracts of the third law's ref2, word, Words: the text's form.
-/
import Derived.Test.YtninheehoabbbaaGreatDoorQ8
import Derived.Test.YtninheehoabbbaaGreatDoorM27
namespace Go.Proofs.YtninheehoabbbaaGreatDoor
set_option linter.unusedSimpArgs false
set_option linter.unusedVariables false
open Go.RowKit Go.Vr Go.Sort Go.Tx Go.Lib
attribute [local go_sem] setCellDrewN allocDrewN

/-- A word, or two versions with a bar between. -/
def GoodW (x : Bs) : Prop := (∃ l, Sp.It x l ∧ Sp.Row l ∧ l.length ≤ 2) ∧ Sp.Hd x ∧ ∀ b ∈ x, b.toNat < 128
theorem good_sign {g : Bs} {v : V} (hv : v.ok = true) (hg : (g.all fun c => decide (c.toNat < 128) && (c != 118) && Sp.isW c && (c != 45)) = true) (hs : (Sp.signedM g v).isSome = true) : GoodW (g ++ txt v) := by
  have hg2 : ∀ c ∈ g, c.toNat < 128 ∧ c ≠ 118 ∧ Sp.isW c = true ∧ c ≠ 45 := fun c hc => by
    have := List.all_eq_true.1 hg c hc
    simp only [Bool.and_eq_true, decide_eq_true_eq, bne_iff_ne, ne_eq] at this
    exact ⟨this.1.1.1, this.1.1.2, this.1.2, this.2⟩
  obtain ⟨l, hl⟩ := Option.isSome_iff_exists.1 hs
  have hb : ∀ c ∈ g ++ txt v, c.toNat < 128 ∧ Sp.isW c = true := by
    intro c hc
    rcases List.mem_append.1 hc with hc | hc
    · exact ⟨(hg2 c hc).1, (hg2 c hc).2.2.1⟩
    · exact ⟨Sp.vb_small c (Sp.txt_bytes hv c hc), Sp.vb_w (Sp.txt_bytes hv c hc)⟩
  refine ⟨⟨l, Sp.it_word (fun c hc => (hb c hc).2) ((Sp.meant_signed hv fun c hc => (hg2 c hc).2.1).trans hl), ⟨(Sp.ok_signed hv hl).2, (Sp.ok_signed hv hl).1⟩, signed_two hl⟩, ?_, fun c hc => (hb c hc).1⟩
  cases g with
  | nil => exact ⟨118, _, rfl, by decide, by decide, by decide⟩
  | cons c t =>
    have h := hg2 c (by simp)
    refine ⟨c, t ++ txt v, rfl, ?_, ?_, h.2.2.2⟩
    · rintro rfl; exact absurd h.2.2.1 (by decide)
    · rintro rfl; exact absurd h.2.2.1 (by decide)
def goodB (x : Bs) : Bool := (x.all fun c => decide (c.toNat < 128) && Sp.isW c) && (Sp.meantM x).isSome && (match x with | c :: _ => c != 32 && c != 124 && c != 45 | [] => false)
theorem good_word {x : Bs} (h : goodB x = true) : GoodW x := by
  unfold goodB at h
  rw [Bool.and_eq_true, Bool.and_eq_true] at h
  obtain ⟨⟨h1, h2⟩, h3⟩ := h
  have hb : ∀ c ∈ x, c.toNat < 128 ∧ Sp.isW c = true := fun c hc => by
    have := List.all_eq_true.1 h1 c hc
    simpa using this
  obtain ⟨l, hl⟩ := Option.isSome_iff_exists.1 h2
  refine ⟨⟨l, Sp.it_word (fun c hc => (hb c hc).2) hl, ⟨(meantM_ok hl).2, (meantM_ok hl).1⟩, meant_len hl⟩, ?_, fun c hc => (hb c hc).1⟩
  cases x with
  | nil => exact nomatch h3
  | cons c t =>
    simp only [Bool.and_eq_true, bne_iff_ne, ne_eq] at h3
    exact ⟨c, t, rfl, h3.1.1, h3.1.2, h3.2⟩
theorem good_two {v u : V} (hv : v.ok = true) (hu : u.ok = true) : GoodW (txt v ++ [32, 45, 32] ++ txt u) := by
  refine ⟨⟨_, Sp.it_two hv hu, Sp.row_only (Sp.ok_v hv _) (Sp.ok_v hu _), Nat.le_trans (only_len _ _) (by omega)⟩, ?_, ?_⟩
  · rw [List.append_assoc]; exact ⟨118, _, rfl, by decide, by decide, by decide⟩
  · intro c hc
    rcases List.mem_append.1 hc with hc | hc
    · rcases List.mem_append.1 hc with hc | hc
      · exact Sp.vb_small c (Sp.txt_bytes hv c hc)
      · have : c = 32 ∨ c = 45 := by simp at hc; rcases hc with rfl | rfl | rfl <;> simp
        rcases this with rfl | rfl <;> decide
    · exact Sp.vb_small c (Sp.txt_bytes hu c hc)

set_option maxHeartbeats 1000000 in
theorem ref2_any (n : Int) (W : World) (h0 : 0 ≤ n) (h1 : n ≤ 1125899906842624) :
    Calls Tryz.prog 40 #[.int .i64 n] W fun e w' => ∃ v : V, e = .returned (.string (str (txt v))) ∧ v.ok = true ∧ RowKit.Below W.heap.size W w' := by
  have e3 : (0 : Int) ≤ n / 3 ∧ n / 3 ≤ 1125899906842624 := by omega
  have e5 : (0 : Int) ≤ n / 5 ∧ n / 5 ≤ 1125899906842624 := by omega
  go_enter Tryz.func40, Tryz.ntmps40
  go_wp2_with fail
  refine (make_any _ _ _ (by omega) (by omega)).mono ?_
  rintro e w1 ⟨v, rfl, ok, b1⟩
  go_wp2_with fail
  refine (rtext_v v _ ok).mono ?_
  rintro e w2 ⟨rfl, b2⟩
  go_wp2_with fail
  go_ret
  exact ⟨v, rfl, ok, step b1 b2⟩

set_option maxHeartbeats 8000000 in
set_option maxRecDepth 100000 in
theorem word3_any (n : Int) (W : World) (h0 : -9223372036854775808 ≤ n) (h1 : n ≤ 9223372036854775807) :
    Calls Tryz.prog 16 #[.int .i64 n] W fun e w' => ∃ x : ByteArray, e = .returned (.string x) ∧ x.size ≤ 150 ∧ Hid (GoodW x.data.toList) ∧ RowKit.Below W.heap.size W w' := by
  go_enter Tryz.func16, Tryz.ntmps16
  go_wp2_with fail
  refine (within3 n 1125899906842624 W (by omega) (by omega) h0 h1).mono ?_
  rintro e w1 ⟨j, rfl, hj, -, rfl⟩
  have j0 : (0 : Int) ≤ (j : Int) := by omega
  generalize (j : Int) = J at *
  go_wp2_with fail
  refine (ref2_any J _ j0 (by omega)).mono ?_
  rintro e w2 ⟨v, rfl, ok, b2⟩
  have OK := hide ok
  have B2 := hide b2
  have hsz := (ok_txt ok).1
  have e7 : (0 : Int) ≤ J / 7 ∧ J / 7 ≤ 1125899906842624 := by omega
  have er : (0 : Int) ≤ J % 16 ∧ J % 16 < 16 := by omega
  have ed : (0 : Int) ≤ J / 16 % 4 ∧ J / 16 % 4 < 4 := by omega
  clear ok b2 h0 h1 hj
  have HD : Hid (∀ g : ByteArray, (g ++ str (txt v)).data.toList = g.data.toList ++ txt v) := fun g => by rw [ba_app, str_list]
  have C7 : Hid (∀ W', Calls Tryz.prog 40 #[.int .i64 (J / 7)] W' fun e w' => ∃ u : V, e = .returned (.string (str (txt u))) ∧ u.ok = true ∧ RowKit.Below W'.heap.size W' w') := fun W' => ref2_any (J / 7) W' e7.1 e7.2
  have HT : Hid (∀ u : V, (str (txt v) ++ ⟨#[32, 45, 32]⟩ ++ str (txt u)).data.toList = txt v ++ [32, 45, 32] ++ txt u) := fun u => by rw [ba_app, ba_app, str_list, str_list]
  have GS : Hid (∀ g : ByteArray, g.size ≤ 4 → (g.data.toList.all fun c => decide (c.toNat < 128) && (c != 118) && Sp.isW c && (c != 45)) = true → (Sp.signedM g.data.toList v).isSome = true → (g ++ str (txt v)).size ≤ 150 ∧ Hid (GoodW (g ++ str (txt v)).data.toList)) := fun g h1 h2 h3 => ⟨by rw [ByteArray.size_append]; omega, by rw [HD.out]; exact hide (good_sign OK.out h2 h3)⟩
  have HZ := hide hsz
  clear hsz
  generalize hr : J % 16 = r at *
  generalize hD : J / 16 % 4 = D at *
  have hD4 : D = 0 ∨ D = 1 ∨ D = 2 ∨ D = 3 := by omega
  have HD4 := hide hD4
  have h16 : r = 0 ∨ r = 1 ∨ r = 2 ∨ r = 3 ∨ r = 4 ∨ r = 5 ∨ r = 6 ∨ r = 7 ∨ r = 8 ∨ r = 9 ∨ r = 10 ∨ r = 11 ∨ r = 12 ∨ r = 13 ∨ r = 14 ∨ r = 15 := by omega
  clear er ed hD4
  rcases h16 with rfl | rfl | rfl | rfl | rfl | rfl | rfl | rfl | rfl | rfl | rfl | rfl | rfl | rfl | rfl | rfl
  · go_wp2_with fail
    go_ret
    exact ⟨_, rfl, by decide, hide (good_word (by decide +kernel)), B2.out⟩
  · rcases HD4.out with rfl | rfl | rfl | rfl
    all_goals
      go_wp2_with fail
      go_ret
      exact ⟨_, rfl, by decide +kernel, hide (good_word (by decide +kernel)), B2.out⟩
  · rcases HD4.out with rfl | rfl | rfl | rfl
    all_goals
      go_wp2_with fail
      go_ret
      exact ⟨_, rfl, by decide +kernel, hide (good_word (by decide +kernel)), B2.out⟩
  · have n1 : ¬ 9223372036854775807 < (str (txt v)).size + 3 := by have := HZ.out; omega
    generalize hs1 : str (txt v) = t1 at *
    go_wp2_with fail
    refine (C7.out _).mono ?_
    rintro e w3 ⟨u, rfl, oku, b3⟩
    have z2 := (ok_txt oku).1
    have n2 : ¬ 9223372036854775807 < t1.size + 3 + (str (txt u)).size := by have := HZ.out; omega
    have GT : Hid ((t1 ++ ⟨#[32, 45, 32]⟩ ++ str (txt u)).size ≤ 150 ∧ GoodW (t1 ++ ⟨#[32, 45, 32]⟩ ++ str (txt u)).data.toList) := by
      refine ⟨?_, ?_⟩
      · have e : (⟨#[32, 45, 32]⟩ : ByteArray).size = 3 := rfl
        rw [ByteArray.size_append, ByteArray.size_append, e]
        have := HZ.out
        omega
      · rw [HT.out]; exact good_two OK.out oku
    have B3 := hide (step B2.out b3)
    clear z2 oku b3
    generalize str (txt u) = t2 at *
    go_wp2_with fail
    go_ret
    exact ⟨_, rfl, GT.out.1, hide GT.out.2, B3.out⟩
  · go_wp2_with fail
    go_ret
    exact ⟨_, rfl, by decide, hide (good_word (by decide +kernel)), B2.out⟩
  all_goals
    have hs : (str (txt v)).size ≤ 71 := HZ.out
    have n0 : ¬ 9223372036854775807 < 0 + (str (txt v)).size := by omega
    have n1 : ¬ 9223372036854775807 < 1 + (str (txt v)).size := by omega
    have n2 : ¬ 9223372036854775807 < 2 + (str (txt v)).size := by omega
    clear hs
    generalize hs1 : str (txt v) = t1 at *
    go_wp2_with fail
    go_ret
    exact ⟨_, rfl, (GS.out _ (by decide) (by decide) rfl).1, (GS.out _ (by decide) (by decide) rfl).2, step B2.out (by repeat (first | with_reducible assumption | with_reducible exact Below.refl _ _ | with_reducible refine Below.setCell ?_ (by first | exact Nat.le_refl _ | (simp; done) | (simp; omega)) _ | with_reducible refine bal ?_ _ | with_reducible refine Below.alloc ?_ (by first | exact Nat.le_refl _ | (simp; done) | (simp; omega)) _ | with_reducible refine Below.drew ?_))⟩
end Go.Proofs.YtninheehoabbbaaGreatDoor
