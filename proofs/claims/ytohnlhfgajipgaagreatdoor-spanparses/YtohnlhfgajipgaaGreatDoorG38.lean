/-
  Contracts of the third law's ref2, word, Words: the text's form.
  Contract of the third law's Words; the span's Parse at such texts.
  strings.IndexAny at any bytes.
-/
import Derived.Test.YtohnlhfgajipgaaGreatDoorG33
import Derived.Test.YtohnlhfgajipgaaGreatDoorG37
import Derived.Test.YtohnlhfgajipgaaGreatDoorG27
import Derived.Laws.RangeAny
import Derived.Laws.Runes
import Derived.WalkMore
import Derived.BigQuiet

namespace Go.Proofs.YtohnlhfgajipgaaGreatDoor
set_option linter.unusedSimpArgs false
set_option linter.unusedVariables false
open Go.RowKit Go.Vr Go.Sort Go.Tx Go.Lib
attribute [local go_sem] setCellDrewN allocDrewN

/-- A word, or two versions with a bar between. -/
def GoodW (x : Bs) : Prop := (∃ l, Sp.It x l ∧ Sp.Row l ∧ l.length ≤ 2) ∧ Sp.Hd x ∧ ∀ b ∈ x, b.toNat < 128
theorem good_sign {g : Bs} {v : V} (hv : v.ok = true) (hg : (g.all fun c => decide (c.toNat < 128) && (c != 118) && Sp.isW c && (c != 45)) = true) (hs : (Sp.signedM g v).isSome = true) : GoodW (g ++ txt v) := by
  have hg2 : ∀ c ∈ g, c.toNat < 128 ∧ c ≠ 118 ∧ Sp.isW c = true ∧ c ≠ 45 := fun c hc => by
    have := List.all_eq_true.1 hg c hc
    simp only [Bool.and_eq_true, decide_eq_true_eq, bne_iff_ne, ne_eq] at this
    exact ⟨this.1.1.1, this.1.1.2, this.1.2, this.2⟩
  obtain ⟨l, hl⟩ := Option.isSome_iff_exists.1 hs
  have hb : ∀ c ∈ g ++ txt v, c.toNat < 128 ∧ Sp.isW c = true := by
    intro c hc
    rcases List.mem_append.1 hc with hc | hc
    · exact ⟨(hg2 c hc).1, (hg2 c hc).2.2.1⟩
    · exact ⟨Sp.vb_small c (Sp.txt_bytes hv c hc), Sp.vb_w (Sp.txt_bytes hv c hc)⟩
  refine ⟨⟨l, Sp.it_word (fun c hc => (hb c hc).2) ((Sp.meant_signed hv fun c hc => (hg2 c hc).2.1).trans hl), ⟨(Sp.ok_signed hv hl).2, (Sp.ok_signed hv hl).1⟩, signed_two hl⟩, ?_, fun c hc => (hb c hc).1⟩
  cases g with
  | nil => exact ⟨118, _, rfl, by decide, by decide, by decide⟩
  | cons c t =>
    have h := hg2 c (by simp)
    refine ⟨c, t ++ txt v, rfl, ?_, ?_, h.2.2.2⟩
    · rintro rfl; exact absurd h.2.2.1 (by decide)
    · rintro rfl; exact absurd h.2.2.1 (by decide)
def goodB (x : Bs) : Bool := (x.all fun c => decide (c.toNat < 128) && Sp.isW c) && (Sp.meantM x).isSome && (match x with | c :: _ => c != 32 && c != 124 && c != 45 | [] => false)
theorem good_word {x : Bs} (h : goodB x = true) : GoodW x := by
  unfold goodB at h
  rw [Bool.and_eq_true, Bool.and_eq_true] at h
  obtain ⟨⟨h1, h2⟩, h3⟩ := h
  have hb : ∀ c ∈ x, c.toNat < 128 ∧ Sp.isW c = true := fun c hc => by
    have := List.all_eq_true.1 h1 c hc
    simpa using this
  obtain ⟨l, hl⟩ := Option.isSome_iff_exists.1 h2
  refine ⟨⟨l, Sp.it_word (fun c hc => (hb c hc).2) hl, ⟨(meantM_ok hl).2, (meantM_ok hl).1⟩, meant_len hl⟩, ?_, fun c hc => (hb c hc).1⟩
  cases x with
  | nil => exact nomatch h3
  | cons c t =>
    simp only [Bool.and_eq_true, bne_iff_ne, ne_eq] at h3
    exact ⟨c, t, rfl, h3.1.1, h3.1.2, h3.2⟩
theorem good_two {v u : V} (hv : v.ok = true) (hu : u.ok = true) : GoodW (txt v ++ [32, 45, 32] ++ txt u) := by
  refine ⟨⟨_, Sp.it_two hv hu, Sp.row_only (Sp.ok_v hv _) (Sp.ok_v hu _), Nat.le_trans (only_len _ _) (by omega)⟩, ?_, ?_⟩
  · rw [List.append_assoc]; exact ⟨118, _, rfl, by decide, by decide, by decide⟩
  · intro c hc
    rcases List.mem_append.1 hc with hc | hc
    · rcases List.mem_append.1 hc with hc | hc
      · exact Sp.vb_small c (Sp.txt_bytes hv c hc)
      · have : c = 32 ∨ c = 45 := by simp at hc; rcases hc with rfl | rfl | rfl <;> simp
        rcases this with rfl | rfl <;> decide
    · exact Sp.vb_small c (Sp.txt_bytes hu c hc)

set_option maxHeartbeats 1000000 in
theorem ref2_any (n : Int) (W : World) (h0 : 0 ≤ n) (h1 : n ≤ 1125899906842624) :
    Calls Tryz.prog 81 #[.int .i64 n] W fun e w' => ∃ v : V, e = .returned (.string (str (txt v))) ∧ v.ok = true ∧ RowKit.Below W.heap.size W w' := by
  have e3 : (0 : Int) ≤ n / 3 ∧ n / 3 ≤ 1125899906842624 := by omega
  have e5 : (0 : Int) ≤ n / 5 ∧ n / 5 ≤ 1125899906842624 := by omega
  go_enter Tryz.func81, Tryz.ntmps81
  go_wp2_with fail
  refine (make_any _ _ _ (by omega) (by omega)).mono ?_
  rintro e w1 ⟨v, rfl, ok, b1⟩
  go_wp2_with fail
  refine (rtext_v v _ ok).mono ?_
  rintro e w2 ⟨rfl, b2⟩
  go_wp2_with fail
  go_ret
  exact ⟨v, rfl, ok, step b1 b2⟩

set_option maxHeartbeats 8000000 in
set_option maxRecDepth 100000 in
theorem word3_any (n : Int) (W : World) (h0 : -9223372036854775808 ≤ n) (h1 : n ≤ 9223372036854775807) :
    Calls Tryz.prog 56 #[.int .i64 n] W fun e w' => ∃ x : ByteArray, e = .returned (.string x) ∧ x.size ≤ 150 ∧ Hid (GoodW x.data.toList) ∧ RowKit.Below W.heap.size W w' := by
  go_enter Tryz.func56, Tryz.ntmps56
  go_wp2_with fail
  refine (within3 n 1125899906842624 W (by omega) (by omega) h0 h1).mono ?_
  rintro e w1 ⟨j, rfl, hj, -, rfl⟩
  have j0 : (0 : Int) ≤ (j : Int) := by omega
  generalize (j : Int) = J at *
  go_wp2_with fail
  refine (ref2_any J _ j0 (by omega)).mono ?_
  rintro e w2 ⟨v, rfl, ok, b2⟩
  have OK := hide ok
  have B2 := hide b2
  have hsz := (ok_txt ok).1
  have e7 : (0 : Int) ≤ J / 7 ∧ J / 7 ≤ 1125899906842624 := by omega
  have er : (0 : Int) ≤ J % 16 ∧ J % 16 < 16 := by omega
  have ed : (0 : Int) ≤ J / 16 % 4 ∧ J / 16 % 4 < 4 := by omega
  clear ok b2 h0 h1 hj
  have HD : Hid (∀ g : ByteArray, (g ++ str (txt v)).data.toList = g.data.toList ++ txt v) := fun g => by rw [ba_app, str_list]
  have C7 : Hid (∀ W', Calls Tryz.prog 81 #[.int .i64 (J / 7)] W' fun e w' => ∃ u : V, e = .returned (.string (str (txt u))) ∧ u.ok = true ∧ RowKit.Below W'.heap.size W' w') := fun W' => ref2_any (J / 7) W' e7.1 e7.2
  have HT : Hid (∀ u : V, (str (txt v) ++ ⟨#[32, 45, 32]⟩ ++ str (txt u)).data.toList = txt v ++ [32, 45, 32] ++ txt u) := fun u => by rw [ba_app, ba_app, str_list, str_list]
  have GS : Hid (∀ g : ByteArray, g.size ≤ 4 → (g.data.toList.all fun c => decide (c.toNat < 128) && (c != 118) && Sp.isW c && (c != 45)) = true → (Sp.signedM g.data.toList v).isSome = true → (g ++ str (txt v)).size ≤ 150 ∧ Hid (GoodW (g ++ str (txt v)).data.toList)) := fun g h1 h2 h3 => ⟨by rw [ByteArray.size_append]; omega, by rw [HD.out]; exact hide (good_sign OK.out h2 h3)⟩
  have HZ := hide hsz
  clear hsz
  generalize hr : J % 16 = r at *
  generalize hD : J / 16 % 4 = D at *
  have hD4 : D = 0 ∨ D = 1 ∨ D = 2 ∨ D = 3 := by omega
  have HD4 := hide hD4
  have h16 : r = 0 ∨ r = 1 ∨ r = 2 ∨ r = 3 ∨ r = 4 ∨ r = 5 ∨ r = 6 ∨ r = 7 ∨ r = 8 ∨ r = 9 ∨ r = 10 ∨ r = 11 ∨ r = 12 ∨ r = 13 ∨ r = 14 ∨ r = 15 := by omega
  clear er ed hD4
  rcases h16 with rfl | rfl | rfl | rfl | rfl | rfl | rfl | rfl | rfl | rfl | rfl | rfl | rfl | rfl | rfl | rfl
  · go_wp2_with fail
    go_ret
    exact ⟨_, rfl, by decide, hide (good_word (by decide +kernel)), B2.out⟩
  · rcases HD4.out with rfl | rfl | rfl | rfl
    all_goals
      go_wp2_with fail
      go_ret
      exact ⟨_, rfl, by decide +kernel, hide (good_word (by decide +kernel)), B2.out⟩
  · rcases HD4.out with rfl | rfl | rfl | rfl
    all_goals
      go_wp2_with fail
      go_ret
      exact ⟨_, rfl, by decide +kernel, hide (good_word (by decide +kernel)), B2.out⟩
  · have n1 : ¬ 9223372036854775807 < (str (txt v)).size + 3 := by have := HZ.out; omega
    generalize hs1 : str (txt v) = t1 at *
    go_wp2_with fail
    refine (C7.out _).mono ?_
    rintro e w3 ⟨u, rfl, oku, b3⟩
    have z2 := (ok_txt oku).1
    have n2 : ¬ 9223372036854775807 < t1.size + 3 + (str (txt u)).size := by have := HZ.out; omega
    have GT : Hid ((t1 ++ ⟨#[32, 45, 32]⟩ ++ str (txt u)).size ≤ 150 ∧ GoodW (t1 ++ ⟨#[32, 45, 32]⟩ ++ str (txt u)).data.toList) := by
      refine ⟨?_, ?_⟩
      · have e : (⟨#[32, 45, 32]⟩ : ByteArray).size = 3 := rfl
        rw [ByteArray.size_append, ByteArray.size_append, e]
        have := HZ.out
        omega
      · rw [HT.out]; exact good_two OK.out oku
    have B3 := hide (step B2.out b3)
    clear z2 oku b3
    generalize str (txt u) = t2 at *
    go_wp2_with fail
    go_ret
    exact ⟨_, rfl, GT.out.1, hide GT.out.2, B3.out⟩
  · go_wp2_with fail
    go_ret
    exact ⟨_, rfl, by decide, hide (good_word (by decide +kernel)), B2.out⟩
  all_goals
    have hs : (str (txt v)).size ≤ 71 := HZ.out
    have n0 : ¬ 9223372036854775807 < 0 + (str (txt v)).size := by omega
    have n1 : ¬ 9223372036854775807 < 1 + (str (txt v)).size := by omega
    have n2 : ¬ 9223372036854775807 < 2 + (str (txt v)).size := by omega
    clear hs
    generalize hs1 : str (txt v) = t1 at *
    go_wp2_with fail
    go_ret
    exact ⟨_, rfl, (GS.out _ (by decide) (by decide) rfl).1, (GS.out _ (by decide) (by decide) rfl).2, step B2.out (by repeat (first | with_reducible assumption | with_reducible exact Below.refl _ _ | with_reducible refine Below.setCell ?_ (by first | exact Nat.le_refl _ | (simp; done) | (simp; omega)) _ | with_reducible refine bal ?_ _ | with_reducible refine Below.alloc ?_ (by first | exact Nat.le_refl _ | (simp; done) | (simp; omega)) _ | with_reducible refine Below.drew ?_))⟩
end Go.Proofs.YtohnlhfgajipgaaGreatDoor

namespace Go.Proofs.YtohnlhfgajipgaaGreatDoor
set_option linter.unusedSimpArgs false
set_option linter.unusedVariables false
open Go.RowKit Go.Vr Go.Sort Go.Tx Go.Lib
attribute [local go_sem] setCellDrewN allocDrewN

/-- A text of so many words. -/
def GoodT (s : Bs) (K : Nat) : Prop := (∃ qs, Sp.Parts s qs ∧ Sp.Fine qs K) ∧ ∀ b ∈ s, b.toNat < 128
theorem asc_app {a b : Bs} (ha : ∀ c ∈ a, c.toNat < 128) (hb : ∀ c ∈ b, c.toNat < 128) : ∀ c ∈ a ++ b, c.toNat < 128 := fun c hc => (List.mem_append.1 hc).elim (ha c) (hb c)
theorem GoodT.first {x : Bs} (h : GoodW x) : GoodT x 1 := by
  obtain ⟨⟨l, h1, h2⟩, h3, h4⟩ := h
  exact ⟨⟨_, Sp.Parts.start h1 h3 h2⟩, h4⟩
theorem GoodT.word {s x b : Bs} {K : Nat} (h : GoodT s K) (hx : GoodW x) (hb : (b.all fun c => c == 32) = true) (h0 : b ≠ []) : GoodT (s ++ b ++ x) (K + 1) := by
  obtain ⟨⟨qs, h1, h2⟩, h3⟩ := h
  obtain ⟨⟨l, g1, g2⟩, g3, g4⟩ := hx
  have hb2 : ∀ d ∈ b, d = 32 := fun d hd => by simpa using List.all_eq_true.1 hb d hd
  rw [List.append_assoc]
  exact ⟨h1.word h2 g1 g3 g2 h0 hb2, asc_app h3 (asc_app (fun c hc => by rw [hb2 c hc]; decide) g4)⟩
theorem GoodT.part {s x a b : Bs} {K : Nat} (h : GoodT s K) (hx : GoodW x) (ha : (a.all fun c => c == 32) = true) (hb : (b.all fun c => c == 32) = true) : GoodT (s ++ (a ++ 124 :: 124 :: b) ++ x) (K + 1) := by
  obtain ⟨⟨qs, h1, h2⟩, h3⟩ := h
  obtain ⟨⟨l, g1, g2⟩, g3, g4⟩ := hx
  have ha2 : ∀ d ∈ a, d = 32 := fun d hd => by simpa using List.all_eq_true.1 ha d hd
  have hb2 : ∀ d ∈ b, d = 32 := fun d hd => by simpa using List.all_eq_true.1 hb d hd
  have e : s ++ (a ++ 124 :: 124 :: b) ++ x = s ++ (a ++ 124 :: 124 :: (b ++ x)) := by simp
  rw [e]
  refine ⟨h1.part h2 g1 g3 g2 ha2 hb2, asc_app h3 (asc_app (fun c hc => by rw [ha2 c hc]; decide) ?_)⟩
  intro c hc
  rcases List.mem_cons.1 hc with rfl | hc
  · decide
  rcases List.mem_cons.1 hc with rfl | hc
  · decide
  exact asc_app (fun c hc => by rw [hb2 c hc]; decide) g4 c hc
theorem GoodT.mono {s : Bs} {K L : Nat} (h : GoodT s K) (hl : K ≤ L) : GoodT s L := by
  obtain ⟨⟨qs, h1, h2⟩, h3⟩ := h
  exact ⟨⟨qs, h1, h2.1, Nat.le_trans h2.2.1 hl, h2.2.2⟩, h3⟩
def sepL : List ByteArray := [⟨#[32]⟩, ⟨#[32, 32]⟩, ⟨#[32, 124, 124, 32]⟩, ⟨#[124, 124]⟩, ⟨#[32]⟩]
theorem GoodT.sep {s x : Bs} {K : Nat} (h : GoodT s K) (hx : GoodW x) (i : Nat) (hi : i < 5) : GoodT (s ++ (sepL.getD i ⟨#[]⟩).data.toList ++ x) (K + 1) := by
  match i, hi with
  | 0, _ => exact h.word hx (b := [32]) (by decide) (by decide)
  | 1, _ => exact h.word hx (b := [32, 32]) (by decide) (by decide)
  | 2, _ => exact h.part hx (a := [32]) (b := [32]) (by decide) (by decide)
  | 3, _ => exact h.part hx (a := []) (b := []) (by decide) (by decide)
  | 4, _ => exact h.word hx (b := [32]) (by decide) (by decide)
theorem measL {n k : Nat} {K : Int} (e : (k : Int) = K) (h : k < n) : n - (RowKit.intOf (Value.int .i64 (K + 1))).toNat < n - (RowKit.intOf (Value.int .i64 K)).toNat := by
  subst e; exact meas rfl h
theorem sep_size (i : Nat) (hi : i < 5) : (sepL.getD i ⟨#[]⟩).size ≤ 4 := by
  match i, hi with
  | 0, _ => decide
  | 1, _ => decide
  | 2, _ => decide
  | 3, _ => decide
  | 4, _ => decide

set_option maxHeartbeats 8000000 in
set_option maxRecDepth 100000 in
theorem words3_any (a : Option Addr) (n cap : Nat) (zs : List Int) (w : World) (hr : Row .i64 w a n cap zs) :
    Calls Tryz.prog 28 #[.slice a n cap] w fun e w' => ∃ x : ByteArray, e = .returned (.string x) ∧ x.size ≤ 924 ∧ Hid (GoodT x.data.toList 6) ∧ RowKit.Below w.heap.size w w' := by
  have HR := hide hr
  clear hr
  have CW : Hid (∀ (z : Int) (W : World), -9223372036854775808 ≤ z → z ≤ 9223372036854775807 → Calls Tryz.prog 56 #[.int .i64 z] W fun e w' => ∃ x : ByteArray, e = .returned (.string x) ∧ x.size ≤ 150 ∧ Hid (GoodW x.data.toList) ∧ RowKit.Below W.heap.size W w') := fun z W h1 h2 => word3_any z W h1 h2
  go_enter Tryz.func28, Tryz.ntmps28
  go_wp2_with fail
  go_loopw [3, 4] (fun s i wr => ∃ (k : Nat) (o : ByteArray), k ≤ n ∧ k ≤ 6 ∧ i = .int .i64 k ∧ s = .string o ∧ o.size ≤ 154 * k ∧ Hid (k ≠ 0 → GoodT o.data.toList k) ∧ Hid (k ≠ 0 → o.data.toList ≠ []) ∧ Hid (k = 0 → o = ⟨#[]⟩) ∧ Hid (RowKit.Below w.heap.size w wr)) (fun _ i _ => 6 - (RowKit.intOf i).toNat)
  case atStart => exact ⟨0, ⟨#[]⟩, by omega, by omega, rfl, rfl, by decide, hide (fun h => absurd rfl h), hide (fun h => absurd rfl h), hide (fun _ => rfl), hide (RowKit.Below.refl _ _)⟩
  case round =>
    obtain ⟨k, o, hk, hk6, rfl, rfl, hos, HG, HNE, H0, HB⟩ := hrel
    by_cases hlt : k < n
    · have d1 : decide ((k : Int) < (n : Int)) = true := by simp; omega
      by_cases h6 : k < 6
      · have d2 : decide ((k : Int) < 6) = true := by simp; omega
        have hrl := HR.out.later HB.out
        have hn := HR.out.n
        cases a with
        | none => have := HR.out.nil rfl; omega
        | some x =>
          obtain ⟨b, off, spot⟩ := x
          have hspot : spot = none := by simpa [Addr.add] using World.cell?_spot (hrl.cell _ rfl 0 (by omega))
          subst hspot
          have hc := hrl.cell _ rfl k hlt
          rw [addr_add] at hc
          have HC : Hid (∀ W, RowKit.Below wr.heap.size wr W → W.cell? ⟨b, off + k, none⟩ = some (.int .i64 (zs.getD k 0))) := fun W h => by
            have := (hrl.later h).cell _ rfl k hlt
            rw [addr_add] at this
            exact this
          have hz := bd64 (hrl.wf (zs.getD k 0) (by rw [List.getD_eq_getElem?_getD, List.getElem?_eq_getElem (by omega)]; exact List.getElem_mem _))
          generalize zs.getD k 0 = z at *
          obtain ⟨z1, z2⟩ := hz
          have i1 : (0 : Int) ≤ (k : Int) := by omega
          have i2 : (k : Int) < (n : Int) := by omega
          have C5 : Hid (∀ W, Calls Tryz.prog 29 #[.int .i64 z, .int .i64 5] W fun e w' => ∃ j : Nat, e = .returned (.int .i64 j) ∧ (j : Int) < 5 ∧ Hid ((j : Int) = z % 5) ∧ w' = W) := fun W => within3 z 5 W (by omega) (by omega) z1 z2
          have C50 : Hid (∀ W, Calls Tryz.prog 29 #[.int .i64 z, .int .i64 1125899906842624] W fun e w' => ∃ j : Nat, e = .returned (.int .i64 j) ∧ (j : Int) < 1125899906842624 ∧ Hid ((j : Int) = z % 1125899906842624) ∧ w' = W) := fun W => within3 z 1125899906842624 W (by omega) (by omega) z1 z2
          have HOS := hide hos
          have HK6 := hide h6
          clear hrl z1 z2 hos hn
          by_cases hk0 : k = 0
          · subst hk0
            obtain rfl := H0.out rfl
            have hc0 : wr.cell? ⟨b, off, none⟩ = some (.int .i64 z) := hc
            clear hc
            have dk : decide ((0 : Int) < ((0 : Nat) : Int)) = false := by simp
            go_wp2_with fail
            refine (C50.out _).mono ?_
            rintro e w1 ⟨j, rfl, hj, -, rfl⟩
            have j0 : (0 : Int) ≤ (j : Int) := by omega
            generalize (j : Int) = J at *
            have e5 : (0 : Int) ≤ J / 5 ∧ J / 5 ≤ 1125899906842624 := by omega
            go_wp2_with fail
            refine (CW.out _ _ (by omega) (by omega)).mono ?_
            rintro e w2 ⟨x, rfl, hxs, HX, b2⟩
            have n1 : ¬ 9223372036854775807 < 0 + x.size := by omega
            have n2 : ¬ 9223372036854775807 < x.size := by omega
            clear e5 hj j0
            go_wp2_with fail
            go_roundw
            case rel =>
              have e0 : (⟨#[]⟩ : ByteArray) ++ x = x := ba_ext (by rw [ba_app]; rfl)
              refine ⟨1, x, by omega, by omega, by go_num, by first | rfl | rw [e0], by omega, ?_, ?_, ?_, ?_⟩
              · exact hide fun _ => GoodT.first HX.out
              · refine hide fun _ => ?_
                obtain ⟨c, t, h, _⟩ := HX.out.2.1
                rw [h]; exact List.cons_ne_nil _ _
              · exact hide fun h => absurd h (by decide)
              · exact hide (step HB.out b2)
            case measure => simp [RowKit.intOf]
          · have HK0 := hide hk0
            generalize hK : (k : Int) = K at *
            have dk : decide (0 < K) = true := by simp; omega
            have dk2 : (0 : Int) < K := by omega
            have hKt : K.toNat = k := by omega
            have hc1 : ∀ o, (wr.alloc o).cell? ⟨b, off + K.toNat, none⟩ = some (.int .i64 z) := fun o => by rw [hKt]; exact HC.out _ (by repeat (first | with_reducible assumption | with_reducible exact Below.refl _ _ | with_reducible refine Below.setCell ?_ (by first | exact Nat.le_refl _ | (simp; done) | (simp; omega)) _ | with_reducible refine bal ?_ _ | with_reducible refine Below.alloc ?_ (by first | exact Nat.le_refl _ | (simp; done) | (simp; omega)) _ | with_reducible refine Below.drew ?_))
            have wK : wrap64 (K + 1) = K + 1 := by unfold wrap64; omega
            have HKK := hide hK
            have HGk := hide (HG.out hk0)
            clear hK hk0 hc HG H0 HNE hKt
            go_wp2_with fail
            refine (C5.out _).mono ?_
            rintro e w1 ⟨q, rfl, hq, -, rfl⟩
            have hq5 : q = 0 ∨ q = 1 ∨ q = 2 ∨ q = 3 ∨ q = 4 := by omega
            clear hq
            rcases hq5 with rfl | rfl | rfl | rfl | rfl
            · have n1 : ¬ 9223372036854775807 < o.size + 1 := by have := HOS.out; omega
              have HSP : Hid ((⟨#[32]⟩ : ByteArray) = sepL.getD 0 ⟨#[]⟩) := rfl
              go_wp2_with fail
              refine (C50.out _).mono ?_
              rintro e w1 ⟨j, rfl, hj, -, rfl⟩
              have j0 : (0 : Int) ≤ (j : Int) := by omega
              generalize (j : Int) = J at *
              have e5 : (0 : Int) ≤ J / 5 ∧ J / 5 ≤ 1125899906842624 := by omega
              go_wp2_with fail
              refine (CW.out _ _ (by omega) (by omega)).mono ?_
              rintro e w2 ⟨x, rfl, hxs, HX, b2⟩
              have n2 : ¬ 9223372036854775807 < o.size + 1 + x.size := by have := HOS.out; omega
              have B2 := hide (step HB.out (RowKit.Below.trans ((by repeat (first | with_reducible assumption | with_reducible exact Below.refl _ _ | with_reducible refine Below.setCell ?_ (by first | exact Nat.le_refl _ | (simp; done) | (simp; omega)) _ | with_reducible refine bal ?_ _ | with_reducible refine Below.alloc ?_ (by first | exact Nat.le_refl _ | (simp; done) | (simp; omega)) _ | with_reducible refine Below.drew ?_))) (b2.mono (by simp))))
              clear e5 hj j0 b2
              go_wp2_with fail
              go_roundw
              case rel =>
                refine ⟨k + 1, o ++ ⟨#[32]⟩ ++ x, by omega, by have := HK6.out; omega, (congrArg (Value.int .i64) (by have := HKK.out; omega)), rfl, ?_, ?_, ?_, ?_, B2⟩
                · have e : (⟨#[32]⟩ : ByteArray).size = 1 := rfl
                  rw [ByteArray.size_append, ByteArray.size_append, e]
                  have := HOS.out
                  omega
                · refine hide fun _ => ?_
                  rw [ba_app, ba_app, HSP.out]
                  exact HGk.out.sep HX.out 0 (by omega)
                · refine hide fun _ => ?_
                  obtain ⟨c, t, h, _⟩ := HX.out.2.1
                  rw [ba_app, h]
                  simp
                · exact hide fun h => absurd h (by omega)
              case measure => rw [wK]; exact measL HKK.out HK6.out
            · have n1 : ¬ 9223372036854775807 < o.size + 2 := by have := HOS.out; omega
              have HSP : Hid ((⟨#[32, 32]⟩ : ByteArray) = sepL.getD 1 ⟨#[]⟩) := rfl
              go_wp2_with fail
              refine (C50.out _).mono ?_
              rintro e w1 ⟨j, rfl, hj, -, rfl⟩
              have j0 : (0 : Int) ≤ (j : Int) := by omega
              generalize (j : Int) = J at *
              have e5 : (0 : Int) ≤ J / 5 ∧ J / 5 ≤ 1125899906842624 := by omega
              go_wp2_with fail
              refine (CW.out _ _ (by omega) (by omega)).mono ?_
              rintro e w2 ⟨x, rfl, hxs, HX, b2⟩
              have n2 : ¬ 9223372036854775807 < o.size + 2 + x.size := by have := HOS.out; omega
              have B2 := hide (step HB.out (RowKit.Below.trans ((by repeat (first | with_reducible assumption | with_reducible exact Below.refl _ _ | with_reducible refine Below.setCell ?_ (by first | exact Nat.le_refl _ | (simp; done) | (simp; omega)) _ | with_reducible refine bal ?_ _ | with_reducible refine Below.alloc ?_ (by first | exact Nat.le_refl _ | (simp; done) | (simp; omega)) _ | with_reducible refine Below.drew ?_))) (b2.mono (by simp))))
              clear e5 hj j0 b2
              go_wp2_with fail
              go_roundw
              case rel =>
                refine ⟨k + 1, o ++ ⟨#[32, 32]⟩ ++ x, by omega, by have := HK6.out; omega, (congrArg (Value.int .i64) (by have := HKK.out; omega)), rfl, ?_, ?_, ?_, ?_, B2⟩
                · have e : (⟨#[32, 32]⟩ : ByteArray).size = 2 := rfl
                  rw [ByteArray.size_append, ByteArray.size_append, e]
                  have := HOS.out
                  omega
                · refine hide fun _ => ?_
                  rw [ba_app, ba_app, HSP.out]
                  exact HGk.out.sep HX.out 1 (by omega)
                · refine hide fun _ => ?_
                  obtain ⟨c, t, h, _⟩ := HX.out.2.1
                  rw [ba_app, h]
                  simp
                · exact hide fun h => absurd h (by omega)
              case measure => rw [wK]; exact measL HKK.out HK6.out
            · have n1 : ¬ 9223372036854775807 < o.size + 4 := by have := HOS.out; omega
              have HSP : Hid ((⟨#[32, 124, 124, 32]⟩ : ByteArray) = sepL.getD 2 ⟨#[]⟩) := rfl
              go_wp2_with fail
              refine (C50.out _).mono ?_
              rintro e w1 ⟨j, rfl, hj, -, rfl⟩
              have j0 : (0 : Int) ≤ (j : Int) := by omega
              generalize (j : Int) = J at *
              have e5 : (0 : Int) ≤ J / 5 ∧ J / 5 ≤ 1125899906842624 := by omega
              go_wp2_with fail
              refine (CW.out _ _ (by omega) (by omega)).mono ?_
              rintro e w2 ⟨x, rfl, hxs, HX, b2⟩
              have n2 : ¬ 9223372036854775807 < o.size + 4 + x.size := by have := HOS.out; omega
              have B2 := hide (step HB.out (RowKit.Below.trans ((by repeat (first | with_reducible assumption | with_reducible exact Below.refl _ _ | with_reducible refine Below.setCell ?_ (by first | exact Nat.le_refl _ | (simp; done) | (simp; omega)) _ | with_reducible refine bal ?_ _ | with_reducible refine Below.alloc ?_ (by first | exact Nat.le_refl _ | (simp; done) | (simp; omega)) _ | with_reducible refine Below.drew ?_))) (b2.mono (by simp))))
              clear e5 hj j0 b2
              go_wp2_with fail
              go_roundw
              case rel =>
                refine ⟨k + 1, o ++ ⟨#[32, 124, 124, 32]⟩ ++ x, by omega, by have := HK6.out; omega, (congrArg (Value.int .i64) (by have := HKK.out; omega)), rfl, ?_, ?_, ?_, ?_, B2⟩
                · have e : (⟨#[32, 124, 124, 32]⟩ : ByteArray).size = 4 := rfl
                  rw [ByteArray.size_append, ByteArray.size_append, e]
                  have := HOS.out
                  omega
                · refine hide fun _ => ?_
                  rw [ba_app, ba_app, HSP.out]
                  exact HGk.out.sep HX.out 2 (by omega)
                · refine hide fun _ => ?_
                  obtain ⟨c, t, h, _⟩ := HX.out.2.1
                  rw [ba_app, h]
                  simp
                · exact hide fun h => absurd h (by omega)
              case measure => rw [wK]; exact measL HKK.out HK6.out
            · have n1 : ¬ 9223372036854775807 < o.size + 2 := by have := HOS.out; omega
              have HSP : Hid ((⟨#[124, 124]⟩ : ByteArray) = sepL.getD 3 ⟨#[]⟩) := rfl
              go_wp2_with fail
              refine (C50.out _).mono ?_
              rintro e w1 ⟨j, rfl, hj, -, rfl⟩
              have j0 : (0 : Int) ≤ (j : Int) := by omega
              generalize (j : Int) = J at *
              have e5 : (0 : Int) ≤ J / 5 ∧ J / 5 ≤ 1125899906842624 := by omega
              go_wp2_with fail
              refine (CW.out _ _ (by omega) (by omega)).mono ?_
              rintro e w2 ⟨x, rfl, hxs, HX, b2⟩
              have n2 : ¬ 9223372036854775807 < o.size + 2 + x.size := by have := HOS.out; omega
              have B2 := hide (step HB.out (RowKit.Below.trans ((by repeat (first | with_reducible assumption | with_reducible exact Below.refl _ _ | with_reducible refine Below.setCell ?_ (by first | exact Nat.le_refl _ | (simp; done) | (simp; omega)) _ | with_reducible refine bal ?_ _ | with_reducible refine Below.alloc ?_ (by first | exact Nat.le_refl _ | (simp; done) | (simp; omega)) _ | with_reducible refine Below.drew ?_))) (b2.mono (by simp))))
              clear e5 hj j0 b2
              go_wp2_with fail
              go_roundw
              case rel =>
                refine ⟨k + 1, o ++ ⟨#[124, 124]⟩ ++ x, by omega, by have := HK6.out; omega, (congrArg (Value.int .i64) (by have := HKK.out; omega)), rfl, ?_, ?_, ?_, ?_, B2⟩
                · have e : (⟨#[124, 124]⟩ : ByteArray).size = 2 := rfl
                  rw [ByteArray.size_append, ByteArray.size_append, e]
                  have := HOS.out
                  omega
                · refine hide fun _ => ?_
                  rw [ba_app, ba_app, HSP.out]
                  exact HGk.out.sep HX.out 3 (by omega)
                · refine hide fun _ => ?_
                  obtain ⟨c, t, h, _⟩ := HX.out.2.1
                  rw [ba_app, h]
                  simp
                · exact hide fun h => absurd h (by omega)
              case measure => rw [wK]; exact measL HKK.out HK6.out
            · have n1 : ¬ 9223372036854775807 < o.size + 1 := by have := HOS.out; omega
              have HSP : Hid ((⟨#[32]⟩ : ByteArray) = sepL.getD 4 ⟨#[]⟩) := rfl
              go_wp2_with fail
              refine (C50.out _).mono ?_
              rintro e w1 ⟨j, rfl, hj, -, rfl⟩
              have j0 : (0 : Int) ≤ (j : Int) := by omega
              generalize (j : Int) = J at *
              have e5 : (0 : Int) ≤ J / 5 ∧ J / 5 ≤ 1125899906842624 := by omega
              go_wp2_with fail
              refine (CW.out _ _ (by omega) (by omega)).mono ?_
              rintro e w2 ⟨x, rfl, hxs, HX, b2⟩
              have n2 : ¬ 9223372036854775807 < o.size + 1 + x.size := by have := HOS.out; omega
              have B2 := hide (step HB.out (RowKit.Below.trans ((by repeat (first | with_reducible assumption | with_reducible exact Below.refl _ _ | with_reducible refine Below.setCell ?_ (by first | exact Nat.le_refl _ | (simp; done) | (simp; omega)) _ | with_reducible refine bal ?_ _ | with_reducible refine Below.alloc ?_ (by first | exact Nat.le_refl _ | (simp; done) | (simp; omega)) _ | with_reducible refine Below.drew ?_))) (b2.mono (by simp))))
              clear e5 hj j0 b2
              go_wp2_with fail
              go_roundw
              case rel =>
                refine ⟨k + 1, o ++ ⟨#[32]⟩ ++ x, by omega, by have := HK6.out; omega, (congrArg (Value.int .i64) (by have := HKK.out; omega)), rfl, ?_, ?_, ?_, ?_, B2⟩
                · have e : (⟨#[32]⟩ : ByteArray).size = 1 := rfl
                  rw [ByteArray.size_append, ByteArray.size_append, e]
                  have := HOS.out
                  omega
                · refine hide fun _ => ?_
                  rw [ba_app, ba_app, HSP.out]
                  exact HGk.out.sep HX.out 4 (by omega)
                · refine hide fun _ => ?_
                  obtain ⟨c, t, h, _⟩ := HX.out.2.1
                  rw [ba_app, h]
                  simp
                · exact hide fun h => absurd h (by omega)
              case measure => rw [wK]; exact measL HKK.out HK6.out
      · have d2 : decide ((k : Int) < 6) = false := by simp; omega
        have hne : o.toList.isEmpty = false := by
          rw [toList_data]
          cases h : o.data.toList with
          | nil => exact absurd h (HNE.out (by omega))
          | cons c t => rfl
        go_wp2_with fail
        go_ret
        exact ⟨o, rfl, by omega, hide ((HG.out (by omega)).mono (by omega)), HB.out⟩
    · have d1 : decide ((k : Int) < (n : Int)) = false := by simp; omega
      by_cases hk0 : k = 0
      · subst hk0
        obtain rfl := H0.out rfl
        have hem : (⟨#[]⟩ : ByteArray).toList.isEmpty = true := by decide +kernel
        go_wp2_with fail
        go_ret
        exact ⟨⟨#[42]⟩, rfl, by decide, hide ((GoodT.first (good_word (by decide +kernel))).mono (by omega)), HB.out⟩
      · have hne : o.toList.isEmpty = false := by
          rw [toList_data]
          cases h : o.data.toList with
          | nil => exact absurd h (HNE.out hk0)
          | cons c t => rfl
        go_wp2_with fail
        go_ret
        exact ⟨o, rfl, by omega, hide ((HG.out hk0).mono hk6), HB.out⟩
end Go.Proofs.YtohnlhfgajipgaaGreatDoor

namespace Go.Proofs.YtohnlhfgajipgaaGreatDoor
set_option linter.unusedSimpArgs false
set_option linter.unusedVariables false
open Go.RowKit Go.Vr Go.Sort Go.Tx Go.Lib
attribute [local go_sem] setCellDrewN allocDrewN

theorem enc_cases (r : Int) (h : 128 ≤ r) : (∃ a b : UInt8, Utf8.encode r = ⟨#[a, b]⟩ ∧ 128 ≤ b.toNat) ∨ (∃ a b c : UInt8, Utf8.encode r = ⟨#[a, b, c]⟩) ∨ (∃ a b c d : UInt8, Utf8.encode r = ⟨#[a, b, c, d]⟩) := by
  unfold Utf8.encode
  have hc : 128 ≤ (if Utf8.valid r = true then r.toNat else Utf8.runeError) := by
    split
    · omega
    · decide
  generalize (if Utf8.valid r = true then r.toNat else Utf8.runeError) = c at *
  simp only
  rw [if_neg (by omega)]
  split
  · refine .inl ⟨_, _, rfl, ?_⟩
    rw [UInt8.toNat_ofNat']
    omega
  · split
    · exact .inr (.inl ⟨_, _, _, rfl⟩)
    · exact .inr (.inr ⟨_, _, _, _, rfl⟩)

set_option maxHeartbeats 2000000 in
theorem valid_rune (r : Int) (w : World) : Calls Tryz.prog 177 #[.int .i32 r] w fun e w' => ∃ b : Bool, e = .returned (.bool b) ∧ w' = w := by
  by_cases h1 : 0 ≤ r ∧ r < 55296
  · obtain ⟨h1, h2⟩ := h1
    go_enter Tryz.func177, Tryz.ntmps177
    go_wp2_with fail
    go_ret
    first | exact ⟨true, rfl, rfl⟩ | exact ⟨.inr rfl, rfl⟩
  · by_cases h0 : 0 ≤ r
    · have h2 : ¬ r < 55296 := fun h => h1 ⟨h0, h⟩
      have h2' : decide (r < 55296) = false := decide_eq_false h2
      by_cases h3 : 57343 < r
      · by_cases h4 : r ≤ 1114111
        all_goals
          go_enter Tryz.func177, Tryz.ntmps177
          go_wp2_with fail
          go_ret
          first | exact ⟨_, rfl, rfl⟩ | exact ⟨.inl rfl, rfl⟩ | exact ⟨.inr rfl, rfl⟩
      · go_enter Tryz.func177, Tryz.ntmps177
        go_wp2_with fail
        go_ret
        first | exact ⟨_, rfl, rfl⟩ | exact ⟨.inl rfl, rfl⟩ | exact ⟨.inr rfl, rfl⟩
    · have h3 : ¬ 57343 < r := by omega
      go_enter Tryz.func177, Tryz.ntmps177
      go_wp2_with fail
      go_ret
      first | exact ⟨_, rfl, rfl⟩ | exact ⟨.inl rfl, rfl⟩ | exact ⟨.inr rfl, rfl⟩

end Go.Proofs.YtohnlhfgajipgaaGreatDoor
