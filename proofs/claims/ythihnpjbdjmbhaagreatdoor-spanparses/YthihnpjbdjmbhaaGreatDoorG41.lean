/-
  Contract of the third law's Words; the span's Parse at such texts.
  What is left of any text, strings.IndexAny at it; []byte(s), string(b).
-/
import Derived.Test.YthihnpjbdjmbhaaGreatDoorG40
import Derived.Test.YthihnpjbdjmbhaaGreatDoorG28
import Derived.Laws.IdiomStrings

namespace Go.Proofs.YthihnpjbdjmbhaaGreatDoor
set_option linter.unusedSimpArgs false
set_option linter.unusedVariables false
open Go.RowKit Go.Vr Go.Sort Go.Tx Go.Lib
attribute [local go_sem] setCellDrewN allocDrewN

/-- A text of so many words. -/
def GoodT (s : Bs) (K : Nat) : Prop := (∃ qs, Sp.Parts s qs ∧ Sp.Fine qs K) ∧ ∀ b ∈ s, b.toNat < 128
theorem asc_app {a b : Bs} (ha : ∀ c ∈ a, c.toNat < 128) (hb : ∀ c ∈ b, c.toNat < 128) : ∀ c ∈ a ++ b, c.toNat < 128 := fun c hc => (List.mem_append.1 hc).elim (ha c) (hb c)
theorem GoodT.first {x : Bs} (h : GoodW x) : GoodT x 1 := by
  obtain ⟨⟨l, h1, h2⟩, h3, h4⟩ := h
  exact ⟨⟨_, Sp.Parts.start h1 h3 h2⟩, h4⟩
theorem GoodT.word {s x b : Bs} {K : Nat} (h : GoodT s K) (hx : GoodW x) (hb : (b.all fun c => c == 32) = true) (h0 : b ≠ []) : GoodT (s ++ b ++ x) (K + 1) := by
  obtain ⟨⟨qs, h1, h2⟩, h3⟩ := h
  obtain ⟨⟨l, g1, g2⟩, g3, g4⟩ := hx
  have hb2 : ∀ d ∈ b, d = 32 := fun d hd => by simpa using List.all_eq_true.1 hb d hd
  rw [List.append_assoc]
  exact ⟨h1.word h2 g1 g3 g2 h0 hb2, asc_app h3 (asc_app (fun c hc => by rw [hb2 c hc]; decide) g4)⟩
theorem GoodT.part {s x a b : Bs} {K : Nat} (h : GoodT s K) (hx : GoodW x) (ha : (a.all fun c => c == 32) = true) (hb : (b.all fun c => c == 32) = true) : GoodT (s ++ (a ++ 124 :: 124 :: b) ++ x) (K + 1) := by
  obtain ⟨⟨qs, h1, h2⟩, h3⟩ := h
  obtain ⟨⟨l, g1, g2⟩, g3, g4⟩ := hx
  have ha2 : ∀ d ∈ a, d = 32 := fun d hd => by simpa using List.all_eq_true.1 ha d hd
  have hb2 : ∀ d ∈ b, d = 32 := fun d hd => by simpa using List.all_eq_true.1 hb d hd
  have e : s ++ (a ++ 124 :: 124 :: b) ++ x = s ++ (a ++ 124 :: 124 :: (b ++ x)) := by simp
  rw [e]
  refine ⟨h1.part h2 g1 g3 g2 ha2 hb2, asc_app h3 (asc_app (fun c hc => by rw [ha2 c hc]; decide) ?_)⟩
  intro c hc
  rcases List.mem_cons.1 hc with rfl | hc
  · decide
  rcases List.mem_cons.1 hc with rfl | hc
  · decide
  exact asc_app (fun c hc => by rw [hb2 c hc]; decide) g4 c hc
theorem GoodT.mono {s : Bs} {K L : Nat} (h : GoodT s K) (hl : K ≤ L) : GoodT s L := by
  obtain ⟨⟨qs, h1, h2⟩, h3⟩ := h
  exact ⟨⟨qs, h1, h2.1, Nat.le_trans h2.2.1 hl, h2.2.2⟩, h3⟩
def sepL : List ByteArray := [⟨#[32]⟩, ⟨#[32, 32]⟩, ⟨#[32, 124, 124, 32]⟩, ⟨#[124, 124]⟩, ⟨#[32]⟩]
theorem GoodT.sep {s x : Bs} {K : Nat} (h : GoodT s K) (hx : GoodW x) (i : Nat) (hi : i < 5) : GoodT (s ++ (sepL.getD i ⟨#[]⟩).data.toList ++ x) (K + 1) := by
  match i, hi with
  | 0, _ => exact h.word hx (b := [32]) (by decide) (by decide)
  | 1, _ => exact h.word hx (b := [32, 32]) (by decide) (by decide)
  | 2, _ => exact h.part hx (a := [32]) (b := [32]) (by decide) (by decide)
  | 3, _ => exact h.part hx (a := []) (b := []) (by decide) (by decide)
  | 4, _ => exact h.word hx (b := [32]) (by decide) (by decide)
theorem measL {n k : Nat} {K : Int} (e : (k : Int) = K) (h : k < n) : n - (RowKit.intOf (Value.int .i64 (K + 1))).toNat < n - (RowKit.intOf (Value.int .i64 K)).toNat := by
  subst e; exact meas rfl h
theorem sep_size (i : Nat) (hi : i < 5) : (sepL.getD i ⟨#[]⟩).size ≤ 4 := by
  match i, hi with
  | 0, _ => decide
  | 1, _ => decide
  | 2, _ => decide
  | 3, _ => decide
  | 4, _ => decide

set_option maxHeartbeats 8000000 in
set_option maxRecDepth 100000 in
theorem words3_any (a : Option Addr) (n cap : Nat) (zs : List Int) (w : World) (hr : Row .i64 w a n cap zs) :
    Calls Tryz.prog 5 #[.slice a n cap] w fun e w' => ∃ x : ByteArray, e = .returned (.string x) ∧ x.size ≤ 924 ∧ Hid (GoodT x.data.toList 6) ∧ RowKit.Below w.heap.size w w' := by
  have HR := hide hr
  clear hr
  have CW : Hid (∀ (z : Int) (W : World), -9223372036854775808 ≤ z → z ≤ 9223372036854775807 → Calls Tryz.prog 16 #[.int .i64 z] W fun e w' => ∃ x : ByteArray, e = .returned (.string x) ∧ x.size ≤ 150 ∧ Hid (GoodW x.data.toList) ∧ RowKit.Below W.heap.size W w') := fun z W h1 h2 => word3_any z W h1 h2
  go_enter Tryz.func5, Tryz.ntmps5
  go_wp2_with fail
  go_loopw [3, 4] (fun s i wr => ∃ (k : Nat) (o : ByteArray), k ≤ n ∧ k ≤ 6 ∧ i = .int .i64 k ∧ s = .string o ∧ o.size ≤ 154 * k ∧ Hid (k ≠ 0 → GoodT o.data.toList k) ∧ Hid (k ≠ 0 → o.data.toList ≠ []) ∧ Hid (k = 0 → o = ⟨#[]⟩) ∧ Hid (RowKit.Below w.heap.size w wr)) (fun _ i _ => 6 - (RowKit.intOf i).toNat)
  case atStart => exact ⟨0, ⟨#[]⟩, by omega, by omega, rfl, rfl, by decide, hide (fun h => absurd rfl h), hide (fun h => absurd rfl h), hide (fun _ => rfl), hide (RowKit.Below.refl _ _)⟩
  case round =>
    obtain ⟨k, o, hk, hk6, rfl, rfl, hos, HG, HNE, H0, HB⟩ := hrel
    by_cases hlt : k < n
    · have d1 : decide ((k : Int) < (n : Int)) = true := by simp; omega
      by_cases h6 : k < 6
      · have d2 : decide ((k : Int) < 6) = true := by simp; omega
        have hrl := HR.out.later HB.out
        have hn := HR.out.n
        cases a with
        | none => have := HR.out.nil rfl; omega
        | some x =>
          obtain ⟨b, off, spot⟩ := x
          have hspot : spot = none := by simpa [Addr.add] using World.cell?_spot (hrl.cell _ rfl 0 (by omega))
          subst hspot
          have hc := hrl.cell _ rfl k hlt
          rw [addr_add] at hc
          have HC : Hid (∀ W, RowKit.Below wr.heap.size wr W → W.cell? ⟨b, off + k, none⟩ = some (.int .i64 (zs.getD k 0))) := fun W h => by
            have := (hrl.later h).cell _ rfl k hlt
            rw [addr_add] at this
            exact this
          have hz := bd64 (hrl.wf (zs.getD k 0) (by rw [List.getD_eq_getElem?_getD, List.getElem?_eq_getElem (by omega)]; exact List.getElem_mem _))
          generalize zs.getD k 0 = z at *
          obtain ⟨z1, z2⟩ := hz
          have i1 : (0 : Int) ≤ (k : Int) := by omega
          have i2 : (k : Int) < (n : Int) := by omega
          have C5 : Hid (∀ W, Calls Tryz.prog 6 #[.int .i64 z, .int .i64 5] W fun e w' => ∃ j : Nat, e = .returned (.int .i64 j) ∧ (j : Int) < 5 ∧ Hid ((j : Int) = z % 5) ∧ w' = W) := fun W => within3 z 5 W (by omega) (by omega) z1 z2
          have C50 : Hid (∀ W, Calls Tryz.prog 6 #[.int .i64 z, .int .i64 1125899906842624] W fun e w' => ∃ j : Nat, e = .returned (.int .i64 j) ∧ (j : Int) < 1125899906842624 ∧ Hid ((j : Int) = z % 1125899906842624) ∧ w' = W) := fun W => within3 z 1125899906842624 W (by omega) (by omega) z1 z2
          have HOS := hide hos
          have HK6 := hide h6
          clear hrl z1 z2 hos hn
          by_cases hk0 : k = 0
          · subst hk0
            obtain rfl := H0.out rfl
            have hc0 : wr.cell? ⟨b, off, none⟩ = some (.int .i64 z) := hc
            clear hc
            have dk : decide ((0 : Int) < ((0 : Nat) : Int)) = false := by simp
            go_wp2_with fail
            refine (C50.out _).mono ?_
            rintro e w1 ⟨j, rfl, hj, -, rfl⟩
            have j0 : (0 : Int) ≤ (j : Int) := by omega
            generalize (j : Int) = J at *
            have e5 : (0 : Int) ≤ J / 5 ∧ J / 5 ≤ 1125899906842624 := by omega
            go_wp2_with fail
            refine (CW.out _ _ (by omega) (by omega)).mono ?_
            rintro e w2 ⟨x, rfl, hxs, HX, b2⟩
            have n1 : ¬ 9223372036854775807 < 0 + x.size := by omega
            have n2 : ¬ 9223372036854775807 < x.size := by omega
            clear e5 hj j0
            go_wp2_with fail
            go_roundw
            case rel =>
              have e0 : (⟨#[]⟩ : ByteArray) ++ x = x := ba_ext (by rw [ba_app]; rfl)
              refine ⟨1, x, by omega, by omega, by go_num, by first | rfl | rw [e0], by omega, ?_, ?_, ?_, ?_⟩
              · exact hide fun _ => GoodT.first HX.out
              · refine hide fun _ => ?_
                obtain ⟨c, t, h, _⟩ := HX.out.2.1
                rw [h]; exact List.cons_ne_nil _ _
              · exact hide fun h => absurd h (by decide)
              · exact hide (step HB.out b2)
            case measure => simp [RowKit.intOf]
          · have HK0 := hide hk0
            generalize hK : (k : Int) = K at *
            have dk : decide (0 < K) = true := by simp; omega
            have dk2 : (0 : Int) < K := by omega
            have hKt : K.toNat = k := by omega
            have hc1 : ∀ o, (wr.alloc o).cell? ⟨b, off + K.toNat, none⟩ = some (.int .i64 z) := fun o => by rw [hKt]; exact HC.out _ (by repeat (first | with_reducible assumption | with_reducible exact Below.refl _ _ | with_reducible refine Below.setCell ?_ (by first | exact Nat.le_refl _ | (simp; done) | (simp; omega)) _ | with_reducible refine bal ?_ _ | with_reducible refine Below.alloc ?_ (by first | exact Nat.le_refl _ | (simp; done) | (simp; omega)) _ | with_reducible refine Below.drew ?_))
            have wK : wrap64 (K + 1) = K + 1 := by unfold wrap64; omega
            have HKK := hide hK
            have HGk := hide (HG.out hk0)
            clear hK hk0 hc HG H0 HNE hKt
            go_wp2_with fail
            refine (C5.out _).mono ?_
            rintro e w1 ⟨q, rfl, hq, -, rfl⟩
            have hq5 : q = 0 ∨ q = 1 ∨ q = 2 ∨ q = 3 ∨ q = 4 := by omega
            clear hq
            rcases hq5 with rfl | rfl | rfl | rfl | rfl
            · have n1 : ¬ 9223372036854775807 < o.size + 1 := by have := HOS.out; omega
              have HSP : Hid ((⟨#[32]⟩ : ByteArray) = sepL.getD 0 ⟨#[]⟩) := rfl
              go_wp2_with fail
              refine (C50.out _).mono ?_
              rintro e w1 ⟨j, rfl, hj, -, rfl⟩
              have j0 : (0 : Int) ≤ (j : Int) := by omega
              generalize (j : Int) = J at *
              have e5 : (0 : Int) ≤ J / 5 ∧ J / 5 ≤ 1125899906842624 := by omega
              go_wp2_with fail
              refine (CW.out _ _ (by omega) (by omega)).mono ?_
              rintro e w2 ⟨x, rfl, hxs, HX, b2⟩
              have n2 : ¬ 9223372036854775807 < o.size + 1 + x.size := by have := HOS.out; omega
              have B2 := hide (step HB.out (RowKit.Below.trans ((by repeat (first | with_reducible assumption | with_reducible exact Below.refl _ _ | with_reducible refine Below.setCell ?_ (by first | exact Nat.le_refl _ | (simp; done) | (simp; omega)) _ | with_reducible refine bal ?_ _ | with_reducible refine Below.alloc ?_ (by first | exact Nat.le_refl _ | (simp; done) | (simp; omega)) _ | with_reducible refine Below.drew ?_))) (b2.mono (by simp))))
              clear e5 hj j0 b2
              go_wp2_with fail
              go_roundw
              case rel =>
                refine ⟨k + 1, o ++ ⟨#[32]⟩ ++ x, by omega, by have := HK6.out; omega, (congrArg (Value.int .i64) (by have := HKK.out; omega)), rfl, ?_, ?_, ?_, ?_, B2⟩
                · have e : (⟨#[32]⟩ : ByteArray).size = 1 := rfl
                  rw [ByteArray.size_append, ByteArray.size_append, e]
                  have := HOS.out
                  omega
                · refine hide fun _ => ?_
                  rw [ba_app, ba_app, HSP.out]
                  exact HGk.out.sep HX.out 0 (by omega)
                · refine hide fun _ => ?_
                  obtain ⟨c, t, h, _⟩ := HX.out.2.1
                  rw [ba_app, h]
                  simp
                · exact hide fun h => absurd h (by omega)
              case measure => rw [wK]; exact measL HKK.out HK6.out
            · have n1 : ¬ 9223372036854775807 < o.size + 2 := by have := HOS.out; omega
              have HSP : Hid ((⟨#[32, 32]⟩ : ByteArray) = sepL.getD 1 ⟨#[]⟩) := rfl
              go_wp2_with fail
              refine (C50.out _).mono ?_
              rintro e w1 ⟨j, rfl, hj, -, rfl⟩
              have j0 : (0 : Int) ≤ (j : Int) := by omega
              generalize (j : Int) = J at *
              have e5 : (0 : Int) ≤ J / 5 ∧ J / 5 ≤ 1125899906842624 := by omega
              go_wp2_with fail
              refine (CW.out _ _ (by omega) (by omega)).mono ?_
              rintro e w2 ⟨x, rfl, hxs, HX, b2⟩
              have n2 : ¬ 9223372036854775807 < o.size + 2 + x.size := by have := HOS.out; omega
              have B2 := hide (step HB.out (RowKit.Below.trans ((by repeat (first | with_reducible assumption | with_reducible exact Below.refl _ _ | with_reducible refine Below.setCell ?_ (by first | exact Nat.le_refl _ | (simp; done) | (simp; omega)) _ | with_reducible refine bal ?_ _ | with_reducible refine Below.alloc ?_ (by first | exact Nat.le_refl _ | (simp; done) | (simp; omega)) _ | with_reducible refine Below.drew ?_))) (b2.mono (by simp))))
              clear e5 hj j0 b2
              go_wp2_with fail
              go_roundw
              case rel =>
                refine ⟨k + 1, o ++ ⟨#[32, 32]⟩ ++ x, by omega, by have := HK6.out; omega, (congrArg (Value.int .i64) (by have := HKK.out; omega)), rfl, ?_, ?_, ?_, ?_, B2⟩
                · have e : (⟨#[32, 32]⟩ : ByteArray).size = 2 := rfl
                  rw [ByteArray.size_append, ByteArray.size_append, e]
                  have := HOS.out
                  omega
                · refine hide fun _ => ?_
                  rw [ba_app, ba_app, HSP.out]
                  exact HGk.out.sep HX.out 1 (by omega)
                · refine hide fun _ => ?_
                  obtain ⟨c, t, h, _⟩ := HX.out.2.1
                  rw [ba_app, h]
                  simp
                · exact hide fun h => absurd h (by omega)
              case measure => rw [wK]; exact measL HKK.out HK6.out
            · have n1 : ¬ 9223372036854775807 < o.size + 4 := by have := HOS.out; omega
              have HSP : Hid ((⟨#[32, 124, 124, 32]⟩ : ByteArray) = sepL.getD 2 ⟨#[]⟩) := rfl
              go_wp2_with fail
              refine (C50.out _).mono ?_
              rintro e w1 ⟨j, rfl, hj, -, rfl⟩
              have j0 : (0 : Int) ≤ (j : Int) := by omega
              generalize (j : Int) = J at *
              have e5 : (0 : Int) ≤ J / 5 ∧ J / 5 ≤ 1125899906842624 := by omega
              go_wp2_with fail
              refine (CW.out _ _ (by omega) (by omega)).mono ?_
              rintro e w2 ⟨x, rfl, hxs, HX, b2⟩
              have n2 : ¬ 9223372036854775807 < o.size + 4 + x.size := by have := HOS.out; omega
              have B2 := hide (step HB.out (RowKit.Below.trans ((by repeat (first | with_reducible assumption | with_reducible exact Below.refl _ _ | with_reducible refine Below.setCell ?_ (by first | exact Nat.le_refl _ | (simp; done) | (simp; omega)) _ | with_reducible refine bal ?_ _ | with_reducible refine Below.alloc ?_ (by first | exact Nat.le_refl _ | (simp; done) | (simp; omega)) _ | with_reducible refine Below.drew ?_))) (b2.mono (by simp))))
              clear e5 hj j0 b2
              go_wp2_with fail
              go_roundw
              case rel =>
                refine ⟨k + 1, o ++ ⟨#[32, 124, 124, 32]⟩ ++ x, by omega, by have := HK6.out; omega, (congrArg (Value.int .i64) (by have := HKK.out; omega)), rfl, ?_, ?_, ?_, ?_, B2⟩
                · have e : (⟨#[32, 124, 124, 32]⟩ : ByteArray).size = 4 := rfl
                  rw [ByteArray.size_append, ByteArray.size_append, e]
                  have := HOS.out
                  omega
                · refine hide fun _ => ?_
                  rw [ba_app, ba_app, HSP.out]
                  exact HGk.out.sep HX.out 2 (by omega)
                · refine hide fun _ => ?_
                  obtain ⟨c, t, h, _⟩ := HX.out.2.1
                  rw [ba_app, h]
                  simp
                · exact hide fun h => absurd h (by omega)
              case measure => rw [wK]; exact measL HKK.out HK6.out
            · have n1 : ¬ 9223372036854775807 < o.size + 2 := by have := HOS.out; omega
              have HSP : Hid ((⟨#[124, 124]⟩ : ByteArray) = sepL.getD 3 ⟨#[]⟩) := rfl
              go_wp2_with fail
              refine (C50.out _).mono ?_
              rintro e w1 ⟨j, rfl, hj, -, rfl⟩
              have j0 : (0 : Int) ≤ (j : Int) := by omega
              generalize (j : Int) = J at *
              have e5 : (0 : Int) ≤ J / 5 ∧ J / 5 ≤ 1125899906842624 := by omega
              go_wp2_with fail
              refine (CW.out _ _ (by omega) (by omega)).mono ?_
              rintro e w2 ⟨x, rfl, hxs, HX, b2⟩
              have n2 : ¬ 9223372036854775807 < o.size + 2 + x.size := by have := HOS.out; omega
              have B2 := hide (step HB.out (RowKit.Below.trans ((by repeat (first | with_reducible assumption | with_reducible exact Below.refl _ _ | with_reducible refine Below.setCell ?_ (by first | exact Nat.le_refl _ | (simp; done) | (simp; omega)) _ | with_reducible refine bal ?_ _ | with_reducible refine Below.alloc ?_ (by first | exact Nat.le_refl _ | (simp; done) | (simp; omega)) _ | with_reducible refine Below.drew ?_))) (b2.mono (by simp))))
              clear e5 hj j0 b2
              go_wp2_with fail
              go_roundw
              case rel =>
                refine ⟨k + 1, o ++ ⟨#[124, 124]⟩ ++ x, by omega, by have := HK6.out; omega, (congrArg (Value.int .i64) (by have := HKK.out; omega)), rfl, ?_, ?_, ?_, ?_, B2⟩
                · have e : (⟨#[124, 124]⟩ : ByteArray).size = 2 := rfl
                  rw [ByteArray.size_append, ByteArray.size_append, e]
                  have := HOS.out
                  omega
                · refine hide fun _ => ?_
                  rw [ba_app, ba_app, HSP.out]
                  exact HGk.out.sep HX.out 3 (by omega)
                · refine hide fun _ => ?_
                  obtain ⟨c, t, h, _⟩ := HX.out.2.1
                  rw [ba_app, h]
                  simp
                · exact hide fun h => absurd h (by omega)
              case measure => rw [wK]; exact measL HKK.out HK6.out
            · have n1 : ¬ 9223372036854775807 < o.size + 1 := by have := HOS.out; omega
              have HSP : Hid ((⟨#[32]⟩ : ByteArray) = sepL.getD 4 ⟨#[]⟩) := rfl
              go_wp2_with fail
              refine (C50.out _).mono ?_
              rintro e w1 ⟨j, rfl, hj, -, rfl⟩
              have j0 : (0 : Int) ≤ (j : Int) := by omega
              generalize (j : Int) = J at *
              have e5 : (0 : Int) ≤ J / 5 ∧ J / 5 ≤ 1125899906842624 := by omega
              go_wp2_with fail
              refine (CW.out _ _ (by omega) (by omega)).mono ?_
              rintro e w2 ⟨x, rfl, hxs, HX, b2⟩
              have n2 : ¬ 9223372036854775807 < o.size + 1 + x.size := by have := HOS.out; omega
              have B2 := hide (step HB.out (RowKit.Below.trans ((by repeat (first | with_reducible assumption | with_reducible exact Below.refl _ _ | with_reducible refine Below.setCell ?_ (by first | exact Nat.le_refl _ | (simp; done) | (simp; omega)) _ | with_reducible refine bal ?_ _ | with_reducible refine Below.alloc ?_ (by first | exact Nat.le_refl _ | (simp; done) | (simp; omega)) _ | with_reducible refine Below.drew ?_))) (b2.mono (by simp))))
              clear e5 hj j0 b2
              go_wp2_with fail
              go_roundw
              case rel =>
                refine ⟨k + 1, o ++ ⟨#[32]⟩ ++ x, by omega, by have := HK6.out; omega, (congrArg (Value.int .i64) (by have := HKK.out; omega)), rfl, ?_, ?_, ?_, ?_, B2⟩
                · have e : (⟨#[32]⟩ : ByteArray).size = 1 := rfl
                  rw [ByteArray.size_append, ByteArray.size_append, e]
                  have := HOS.out
                  omega
                · refine hide fun _ => ?_
                  rw [ba_app, ba_app, HSP.out]
                  exact HGk.out.sep HX.out 4 (by omega)
                · refine hide fun _ => ?_
                  obtain ⟨c, t, h, _⟩ := HX.out.2.1
                  rw [ba_app, h]
                  simp
                · exact hide fun h => absurd h (by omega)
              case measure => rw [wK]; exact measL HKK.out HK6.out
      · have d2 : decide ((k : Int) < 6) = false := by simp; omega
        have hne : o.toList.isEmpty = false := by
          rw [toList_data]
          cases h : o.data.toList with
          | nil => exact absurd h (HNE.out (by omega))
          | cons c t => rfl
        go_wp2_with fail
        go_ret
        exact ⟨o, rfl, by omega, hide ((HG.out (by omega)).mono (by omega)), HB.out⟩
    · have d1 : decide ((k : Int) < (n : Int)) = false := by simp; omega
      by_cases hk0 : k = 0
      · subst hk0
        obtain rfl := H0.out rfl
        have hem : (⟨#[]⟩ : ByteArray).toList.isEmpty = true := by decide +kernel
        go_wp2_with fail
        go_ret
        exact ⟨⟨#[42]⟩, rfl, by decide, hide ((GoodT.first (good_word (by decide +kernel))).mono (by omega)), HB.out⟩
      · have hne : o.toList.isEmpty = false := by
          rw [toList_data]
          cases h : o.data.toList with
          | nil => exact absurd h (HNE.out hk0)
          | cons c t => rfl
        go_wp2_with fail
        go_ret
        exact ⟨o, rfl, by omega, hide ((HG.out hk0).mono hk6), HB.out⟩
end Go.Proofs.YthihnpjbdjmbhaaGreatDoor

namespace Go.Proofs.YthihnpjbdjmbhaaGreatDoor
set_option linter.unusedSimpArgs false
set_option linter.unusedVariables false
open Go.RowKit Go.Tx Go.Joins Go.Vr Go.Sort Go.Lib

theorem ia_any (s : ByteArray) (hs : s.size ≤ 1000000) : IA s := by
  intro p W hp
  have hy : (s.extract p s.size).data.toList = s.data.toList.drop p := by
    simp only [ByteArray.data_extract, Array.toList_extract, List.extract_eq_take_drop]
    rw [List.take_of_length_le (by rw [List.length_drop, len_eq]; exact Nat.le_refl _)]
  have hz : (s.extract p s.size).size ≤ 1000000 := by rw [← len_eq, hy, List.length_drop, len_eq]; omega
  by_cases h8 : (s.extract p s.size).size ≤ 8
  · have h := any_short (s.extract p s.size) W h8
    rw [hy] at h
    exact h
  · have h116 : (Tryz.prog.info? (Tryz.lays153_ren.t 116)).map (fun i => (i.zero, i.size)) = some (some (.agg (Array.replicate 256 (.bool false))), 256) := by kernel_rfl
    have h := Any.strings_IndexAny_long Tryz.lays153 (zero_of_info h116).1 (zero_of_info h116).2 (s.extract p s.size) ⟨#[32, 124]⟩ W (by decide) (by omega) (by omega) (by decide)
      (fun j b hj => by
        have hm := List.mem_of_getElem? hj
        have : b = 32 ∨ b = 124 := by simpa using hm
        rcases this with rfl | rfl <;> decide)
    rw [hy] at h
    refine h.mono ?_
    rintro e w' ⟨h1, rfl⟩
    exact ⟨h1, ((RowKit.Below.refl _ _).alloc (Nat.le_refl _) _).alloc (by simp) _⟩

/-- string(b) of a slice of bytes that came in. -/
theorem Row.conv {w : World} {a : Option Addr} {len cap : Nat} {xs : List Int} (h : Row .u8 w a len cap xs) : (convert 25 9 (.slice a len cap)).run Tryz.prog w = .ok (.string (strOfNums xs)) w := by
  cases a with
  | none =>
    obtain ⟨rfl, rfl⟩ := h.nil rfl
    obtain rfl : xs = [] := List.eq_nil_of_length_eq_zero h.n
    exact run_convert_bytes_nil w 25 5 Tryz.underlying25 Tryz.underlying5 0 0 9 Tryz.underlying9
  | some x =>
    by_cases h0 : len = 0
    · subst h0
      obtain rfl : xs = [] := List.eq_nil_of_length_eq_zero h.n
      rw [run_convert_bytes_string w 25 9 5 (some x) 0 cap Tryz.underlying25 Tryz.underlying5 Tryz.underlying9, run_bytesToString w x 0 cap [] (run_loadCells_list (P := Tryz.prog) w x [] (fun j v hj => by simp at hj))]
      rfl
    · obtain ⟨b, off, spot⟩ := x
      have hc := h.cell _ rfl 0 (by omega)
      have hspot : spot = none := by simpa [Addr.add] using World.cell?_spot hc
      subst hspot
      exact run_convert_bytes_arg w 25 5 Tryz.underlying25 Tryz.underlying5 b off len cap xs h.n (fun i hi => by have := h.cell _ rfl i hi; rw [addr_add] at this; exact this) 9 Tryz.underlying9

theorem bd8 {n : Int} (h : (Lit.int .u8 n).wf = true) : 0 ≤ n ∧ n ≤ 255 := bounds_u8 h

/-- []byte(s): a row of its own. -/
theorem conv_bytes (s : ByteArray) (w : World) (hs : s.size ≤ 1000) : ∃ (cap : Nat) (w' : World) (xs : List Int), (convert 9 25 (.string s)).run Tryz.prog w = .ok (.slice (some ⟨w.heap.size, 0, none⟩) s.size cap) w' ∧ Row .u8 w' (some ⟨w.heap.size, 0, none⟩) s.size cap xs ∧ (∀ j, j < s.size → w'.frozen? ⟨w.heap.size, j, none⟩ = false) ∧ RowKit.Below w.heap.size w w' ∧ w.heap.size < w'.heap.size := by
  refine ⟨_, _, s.data.toList.map (fun c => (c.toNat : Int)), run_bytes_of_string w 9 25 5 s Tryz.underlying9 Tryz.underlying25 Tryz.underlying5, ?_, ?_, ?_, ?_⟩
  · refine ⟨by simp, (fun e => nomatch e), grownCap_ge _ _ _ _, grownCap_le_maxLen _ _ _ _ (by unfold maxLen; omega), fun x e i hi => ?_, fun z hz => ?_⟩
    · obtain rfl : ⟨w.heap.size, 0, none⟩ = x := by simpa using e
      rw [addr_add, Nat.zero_add]
      have h1 := World.cell?_alloc_mark w.drew (bytesRow s (grownCap w s.size 0 5)) 5 ((bytesRow s (grownCap w s.size 0 5)).size, (bytesRow s (grownCap w s.size 0 5)).size + 1) i
      have h2 := bytesRow_at s (grownCap w s.size 0 5) i hi
      have hi2 : i < s.data.toList.length := by rw [len_eq]; exact hi
      refine (h1.trans h2).trans ?_
      simp [List.getD, List.getElem?_eq_getElem hi2]
    · simp at hz
      obtain ⟨c, _, rfl⟩ := hz
      have := c.toNat_lt
      exact WalkArith.wf_u8 (by omega)
  · intro j hj
    have h1 := World.frozen?_alloc_mark w.drew (bytesRow s (grownCap w s.size 0 5)) 5 (bytesRow s (grownCap w s.size 0 5)).size ((bytesRow s (grownCap w s.size 0 5)).size + 1) j
    refine Eq.trans h1 ?_
    have : s.size ≤ (bytesRow s (grownCap w s.size 0 5)).size := by simp [bytesRow]
    simp; omega
  · exact ((RowKit.Below.refl _ _).drew).alloc (by simp) _
  · simp

theorem Row.put {w : World} {N len cap : Nat} {xs : List Int} (h : Row .u8 w (some ⟨N, 0, none⟩) len cap xs) (j : Nat) (hj : j < len) (n : Int) (hn : (Lit.int .u8 n).wf = true) : Row .u8 (w.setCell ⟨N, j, none⟩ (.int .u8 n)) (some ⟨N, 0, none⟩) len cap (xs.set j n) := by
  refine ⟨by rw [List.length_set]; exact h.n, (fun e => nomatch e), h.le, h.mx, fun x e i hi => ?_, fun z hz => ?_⟩
  · obtain rfl : ⟨N, 0, none⟩ = x := by simpa using e
    have hc := h.cell _ rfl i hi
    have hcj := h.cell _ rfl j hj
    rw [addr_add, Nat.zero_add] at hc hcj ⊢
    have hix : i < xs.length := by rw [h.n]; exact hi
    by_cases e : j = i
    · subst e
      rw [World.cell?_setCell_same w ⟨N, j, none⟩ _ hcj]
      simp [List.getD, hix]
    · have ho := World.cell?_setCell_other (w := w) (a := ⟨N, j, none⟩) (b := ⟨N, i, none⟩) (v := .int .u8 n) (by simp)
      rw [ho, hc]
      simp [List.getD, e]
  · rcases List.mem_or_eq_of_mem_set hz with h1 | h1
    · exact h.wf z h1
    · rw [h1]; exact hn


end Go.Proofs.YthihnpjbdjmbhaaGreatDoor
