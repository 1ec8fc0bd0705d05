/-
  Contracts of wild, meant.
  Contract of meant.
  Plain mathematics of a text of spans: words, blanks, what is read.
-/
import Derived.Test.YthihnpjbdjmbhaaGreatDoorG23
import Derived.Test.YthihnpjbdjmbhaaGreatDoorG19
import Derived.Test.YthihnpjbdjmbhaaGreatDoorG22

namespace Go.Proofs.YthihnpjbdjmbhaaGreatDoor
set_option linter.unusedSimpArgs false
set_option linter.unusedVariables false
open Go.RowKit Go.Vr Go.Sort Go.Tx Go.Lib
attribute [local go_sem] setCellDrewN allocDrewN

theorem parse_ok' {s : Bs} {v : V} (h : parse s = some v) : v.ok = true := by
  rw [parse_is] at h
  split at h
  · rename_i k; cases h; exact k.1
  · cases h
theorem cutSuffix_any (s : ByteArray) (w : World) (hs : s.size ≤ 100000) :
    Calls Tryz.prog 138 #[.string s, .string ⟨#[46, 120]⟩] w fun e w' => e = .returned (.tuple #[.string (str (trimSuffix s.data.toList [46, 120])), .bool (hasSuffix s.data.toList [46, 120])]) ∧ w' = w := Any.strings_CutSuffix Tryz.lays104 s ⟨#[46, 120]⟩ w (by omega)
theorem suffix_is (s : Bs) : hasSuffix s [46, 120] = decide (s.drop (s.length - 2) = [46, 120]) := by
  unfold hasSuffix
  by_cases h : s.drop (s.length - 2) = [46, 120]
  · have : [46, 120] <:+ s := ⟨s.take (s.length - 2), by rw [← h, List.take_append_drop]⟩
    rw [decide_eq_true h]
    exact List.isSuffixOf_iff_suffix.2 this
  · have : ¬ [46, 120] <:+ s := by
      rintro ⟨t, rfl⟩
      exact h (by simp)
    rw [decide_eq_false h]
    cases e : [46, 120].isSuffixOf s with
    | false => rfl
    | true => exact absurd (List.isSuffixOf_iff_suffix.1 e) this

set_option maxHeartbeats 16000000 in
set_option maxRecDepth 100000 in
theorem wild_any (s : ByteArray) (w : World) (hs : s.size ≤ 3900) (he : Env w) :
    Calls Tryz.prog 119 #[.string s] w fun e w' => Told w w' e (Sp.wildM s.data.toList) ∧ RowKit.Below w.heap.size w w' := by
  have CC := hide (cutSuffix_any s w (by omega))
  have HE := hide he
  clear he
  by_cases hd : s.data.toList.drop (s.data.toList.length - 2) = [46, 120]
  · have h1 : hasSuffix s.data.toList [46, 120] = true := by rw [suffix_is]; simpa using hd
    have h2 : trimSuffix s.data.toList [46, 120] = s.data.toList.take (s.data.toList.length - 2) := by unfold trimSuffix; rw [if_pos h1]; rfl
    rw [h1, h2] at CC
    have HW : Hid (Sp.wildM s.data.toList = Sp.wild2 (parse (s.data.toList.take (s.data.toList.length - 2) ++ [46, 48])) (parse (s.data.toList.take (s.data.toList.length - 2) ++ [46, 48, 46, 48]))) := by show _ = _; unfold Sp.wildM; rw [if_pos hd]
    have hx : (str (s.data.toList.take (s.data.toList.length - 2))).size ≤ 3900 := by rw [Tx.str_size, List.length_take, len_eq]; omega
    have hx2 : (str (s.data.toList.take (s.data.toList.length - 2))).data.toList = s.data.toList.take (s.data.toList.length - 2) := str_list _
    rw [← hx2] at HW
    clear h1 h2 hd hx2
    generalize str (s.data.toList.take (s.data.toList.length - 2)) = x at *
    have e1 : (x ++ ⟨#[46, 48]⟩).data.toList = x.data.toList ++ [46, 48] := by rw [ba_app]
    have e2 : (x ++ ⟨#[46, 48, 46, 48]⟩).data.toList = x.data.toList ++ [46, 48, 46, 48] := by rw [ba_app]
    have z1 : (x ++ ⟨#[46, 48]⟩).size ≤ 4000 := by rw [ByteArray.size_append]; have : (ByteArray.mk #[46, 48]).size = 2 := rfl; omega
    have z2 : (x ++ ⟨#[46, 48, 46, 48]⟩).size ≤ 4000 := by rw [ByteArray.size_append]; have : (ByteArray.mk #[46, 48, 46, 48]).size = 4 := rfl; omega
    have CP1 : Hid (∀ W, RowKit.Below w.heap.size w W → Calls Tryz.prog 101 #[.string (x ++ ⟨#[46, 48]⟩)] W fun e w' => e = .returned (pret (parse (x.data.toList ++ [46, 48]))) ∧ RowKit.Below W.heap.size W w') := fun W hW => by
      have := parse_any (x ++ ⟨#[46, 48]⟩) W z1 (HE.out.later hW)
      rw [e1] at this; exact this
    have CP2 : Hid (∀ W, RowKit.Below w.heap.size w W → Calls Tryz.prog 101 #[.string (x ++ ⟨#[46, 48, 46, 48]⟩)] W fun e w' => e = .returned (pret (parse (x.data.toList ++ [46, 48, 46, 48]))) ∧ RowKit.Below W.heap.size W w') := fun W hW => by
      have := parse_any (x ++ ⟨#[46, 48, 46, 48]⟩) W z2 (HE.out.later hW)
      rw [e2] at this; exact this
    have n1 : ¬ 9223372036854775807 < x.size + 2 := by omega
    have n2 : ¬ 9223372036854775807 < x.size + 4 := by omega
    clear e1 e2 z1 z2
    have hq1 := @parse_ok' (x.data.toList ++ [46, 48])
    have hq2 := @parse_ok' (x.data.toList ++ [46, 48, 46, 48])
    generalize parse (x.data.toList ++ [46, 48]) = o1 at *
    generalize parse (x.data.toList ++ [46, 48, 46, 48]) = o2 at *
    go_enter Tryz.func119, Tryz.ntmps119
    go_wp2_with fail
    refine CC.out.mono ?_
    rintro e w1 ⟨rfl, rfl⟩
    have hBw1 := RowKit.Below.refl w1.heap.size w1
    go_wp2_with fail
    refine (CP1.out _ hBw1).mono ?_
    rintro e w1' ⟨rfl, b1⟩
    clear hBw1 CP1 CC
    have hBw := b1
    generalize w1' = wv at *
    cases o1 with
    | none =>
      have HW : Hid (Sp.wildM s.data.toList = Sp.wild1 o2) := HW
      simp only [pret, Option.getD_none, Option.isSome_none]
      go_wp2_with fail
      have hBv : RowKit.Below w1.heap.size w1 (wv.alloc (.cells #[.int .i64 V.zero.a, .int .i64 V.zero.b, .int .i64 V.zero.c, .string V.zero.p] 37)) := bal hBw _
      refine (CP2.out _ hBv).mono ?_
      rintro e w2 ⟨rfl, b2⟩
      have hBw := RowKit.Below.trans hBv (b2.mono hBv.size)
      clear b2 CP2
      generalize w2 = wv at *
      cases o2 with
      | none =>
        have HW2 : Hid (Sp.wildM s.data.toList = none) := HW
        simp only [pret, Option.getD_none, Option.isSome_none]
        go_wp2_with fail
        exact bodyPost_ret (v := .tuple #[.slice none 0 0, .bool false]) (by simp [results, Tryz.results119, go_sem]) rfl ⟨by rw [HW2.out]; rfl, (by repeat (first | with_reducible assumption | with_reducible exact Below.refl _ _ | with_reducible refine Below.setCell ?_ (by first | exact Nat.le_refl _ | (simp; done) | (simp; omega)) _ | with_reducible refine bal ?_ _ | with_reducible refine Below.alloc ?_ (by first | exact Nat.le_refl _ | (simp; done) | (simp; omega)) _ | with_reducible refine Below.drew ?_))⟩
      | some u =>
        simp only [pret, Option.getD_some, Option.isSome_some]
        by_cases hpre : u.p.data.toList = []
        · have HW2 : Hid (Sp.wildM s.data.toList = some (Sp.only Sp.cmpC (Sp.firstC u.a 0 0) (Sp.bumpA ⟨u.a, 0, 0, ⟨#[48]⟩⟩))) := HW.out.trans (if_pos hpre)
          have ho := hq2 rfl
          have hp := Sp.parts_ok ho
          have okF : Sp.okC (Sp.firstC u.a 0 0) := Sp.ok_first hp.1 (by omega) (by omega)
          have okv : (V.mk u.a 0 0 ⟨#[48]⟩).ok = true := okF _ rfl
          have CF : Hid (∀ W, Calls Tryz.prog 52 #[.int .i64 u.a, .int .i64 0, .int .i64 0] W fun e w' => e = .returned (pl (Sp.firstC u.a 0 0)).val ∧ RowKit.Below W.heap.size W w') := fun W => first_raw _ _ _ W
          have CB : Hid (∀ W, Calls Tryz.prog 140 #[(pl (Sp.firstC u.a 0 0)).val] W fun e w' => e = .returned (pl (Sp.bumpA ⟨u.a, 0, 0, ⟨#[48]⟩⟩)).val ∧ RowKit.Below W.heap.size W w') := fun W => bumpA_any ⟨u.a, 0, 0, ⟨#[48]⟩⟩ false W okv
          have CO : Hid (∀ W, RowKit.Below w1.heap.size w1 W → Calls Tryz.prog 102 #[(pl (Sp.firstC u.a 0 0)).val, (pl (Sp.bumpA ⟨u.a, 0, 0, ⟨#[48]⟩⟩)).val] W fun e w' => ∃ v', e = .returned v' ∧ EOwn ES w' W.heap.size v' (Sp.only Sp.cmpC (Sp.firstC u.a 0 0) (Sp.bumpA ⟨u.a, 0, 0, ⟨#[48]⟩⟩)) ∧ RowKit.Below W.heap.size W w') := fun W hW => by rw [← pl_val, ← pl_val]; exact only_any _ _ okF (Sp.ok_bumpA okv) W (HE.out.later hW)
          generalize Sp.only Sp.cmpC (Sp.firstC u.a 0 0) (Sp.bumpA ⟨u.a, 0, 0, ⟨#[48]⟩⟩) = lo1 at *
          generalize pl (Sp.bumpA ⟨u.a, 0, 0, ⟨#[48]⟩⟩) = ub at *
          generalize pl (Sp.firstC u.a 0 0) = uf at *
          clear okF okv ho hp
          obtain ⟨xa, xb, xc, xp⟩ := u
          have hemp : xp.toList.isEmpty = true := by
            have : xp.data.toList = [] := hpre
            rw [toList_data, this]; rfl
          clear hpre
          go_wp2_with fail
          refine (CF.out _).mono ?_
          rintro e w3 ⟨rfl, b3⟩
          have hB3 : RowKit.Below w1.heap.size w1 w3 := hBw.trans (RowKit.Below.trans (show RowKit.Below wv.heap.size wv _ from (by repeat (first | with_reducible assumption | with_reducible exact Below.refl _ _ | with_reducible refine Below.setCell ?_ (by first | exact Nat.le_refl _ | (simp; done) | (simp; omega)) _ | with_reducible refine bal ?_ _ | with_reducible refine Below.alloc ?_ (by first | exact Nat.le_refl _ | (simp; done) | (simp; omega)) _ | with_reducible refine Below.drew ?_))) (b3.mono (by simp)) |>.mono hBw.size)
          clear b3 CF
          go_wp2_with fail
          have XF := Box.new w3 uf.cells 63
          have hB4 := bal hB3 (.cells uf.cells 63)
          generalize w3.alloc (.cells uf.cells 63) = W at *
          have HB4 := hide hB4
          have hBW := RowKit.Below.refl W.heap.size W
          have KF : ∀ w', RowKit.Below W.heap.size W w' → ∀ i, w'.cell? ⟨w3.heap.size, i, none⟩ = (uf.cells)[i]? := fun w' h => (XF.later h).c
          clear hB4 hB3 XF
          go_region_held3 (fun w' => RowKit.Below W.heap.size W w') (first | with_reducible assumption | exact (by repeat (first | with_reducible assumption | with_reducible exact Below.refl _ _ | with_reducible refine Below.setCell ?_ (by first | exact Nat.le_refl _ | (simp; done) | (simp; omega)) _ | with_reducible refine bal ?_ _ | with_reducible refine Below.alloc ?_ (by first | exact Nat.le_refl _ | (simp; done) | (simp; omega)) _ | with_reducible refine Below.drew ?_))) (first
            | (go_at_call 140; refine (CB.out _).mono ?_; rintro e w4 ⟨rfl, b4⟩; have b4 : RowKit.Below W.heap.size W w4 := (by refine Below.trans ?_ (Below.mono b4 ?_); rotate_left; exact Below.size (by with_reducible assumption); with_reducible assumption))
            | (go_at_call 102; refine (CO.out _ (HB4.out.trans (b4.mono HB4.out.size))).mono ?_; rintro e w5 ⟨v5, rfl, o5, b5⟩; have s4 := b4.size; have b5 : RowKit.Below W.heap.size W w5 := (by refine Below.trans ?_ (Below.mono b5 ?_); rotate_left; exact Below.size (by with_reducible assumption); with_reducible assumption)))
          clear KF CB CO
          go_wp2_with fail
          exact bodyPost_ret (v := .tuple #[v5, .bool true]) (by simp [results, Tryz.results119, go_sem]) rfl ⟨by rw [HW2.out]; exact ⟨v5, rfl, o5.base (by have := HB4.out.size; omega)⟩, HB4.out.trans (b5.mono HB4.out.size)⟩
        · have HW2 : Hid (Sp.wildM s.data.toList = none) := HW.out.trans (if_neg hpre)
          obtain ⟨xa, xb, xc, xp⟩ := u
          have hemp : xp.toList.isEmpty = false := by
            have : ¬ xp.data.toList = [] := hpre
            rw [toList_data]; simpa using this
          clear hpre
          go_wp2_with fail
          exact bodyPost_ret (v := .tuple #[.slice none 0 0, .bool false]) (by simp [results, Tryz.results119, go_sem]) rfl ⟨by rw [HW2.out]; rfl, (by repeat (first | with_reducible assumption | with_reducible exact Below.refl _ _ | with_reducible refine Below.setCell ?_ (by first | exact Nat.le_refl _ | (simp; done) | (simp; omega)) _ | with_reducible refine bal ?_ _ | with_reducible refine Below.alloc ?_ (by first | exact Nat.le_refl _ | (simp; done) | (simp; omega)) _ | with_reducible refine Below.drew ?_))⟩
    | some v =>
      simp only [pret, Option.getD_some, Option.isSome_some]
      by_cases hpre : v.p.data.toList = []
      · have HW2 : Hid (Sp.wildM s.data.toList = some (Sp.only Sp.cmpC (Sp.firstC v.a v.b 0) (Sp.bumpB ⟨v.a, v.b, 0, ⟨#[48]⟩⟩))) := HW.out.trans (if_pos hpre)
        have ho := hq1 rfl
        have hp := Sp.parts_ok ho
        have okF : Sp.okC (Sp.firstC v.a v.b 0) := Sp.ok_first hp.1 hp.2.1 (by omega)
        have okv : (V.mk v.a v.b 0 ⟨#[48]⟩).ok = true := okF _ rfl
        have CF : Hid (∀ W, Calls Tryz.prog 52 #[.int .i64 v.a, .int .i64 v.b, .int .i64 0] W fun e w' => e = .returned (pl (Sp.firstC v.a v.b 0)).val ∧ RowKit.Below W.heap.size W w') := fun W => first_raw _ _ _ W
        have CB : Hid (∀ W, Calls Tryz.prog 139 #[(pl (Sp.firstC v.a v.b 0)).val] W fun e w' => e = .returned (pl (Sp.bumpB ⟨v.a, v.b, 0, ⟨#[48]⟩⟩)).val ∧ RowKit.Below W.heap.size W w') := fun W => bumpB_any ⟨v.a, v.b, 0, ⟨#[48]⟩⟩ false W okv
        have CO : Hid (∀ W, RowKit.Below w1.heap.size w1 W → Calls Tryz.prog 102 #[(pl (Sp.firstC v.a v.b 0)).val, (pl (Sp.bumpB ⟨v.a, v.b, 0, ⟨#[48]⟩⟩)).val] W fun e w' => ∃ v', e = .returned v' ∧ EOwn ES w' W.heap.size v' (Sp.only Sp.cmpC (Sp.firstC v.a v.b 0) (Sp.bumpB ⟨v.a, v.b, 0, ⟨#[48]⟩⟩)) ∧ RowKit.Below W.heap.size W w') := fun W hW => by rw [← pl_val, ← pl_val]; exact only_any _ _ okF (Sp.ok_bumpB okv) W (HE.out.later hW)
        generalize Sp.only Sp.cmpC (Sp.firstC v.a v.b 0) (Sp.bumpB ⟨v.a, v.b, 0, ⟨#[48]⟩⟩) = lo1 at *
        generalize pl (Sp.bumpB ⟨v.a, v.b, 0, ⟨#[48]⟩⟩) = ub at *
        generalize pl (Sp.firstC v.a v.b 0) = uf at *
        clear okF okv ho hp
        obtain ⟨xa, xb, xc, xp⟩ := v
        have hemp : xp.toList.isEmpty = true := by
          have : xp.data.toList = [] := hpre
          rw [toList_data, this]; rfl
        clear hpre
        go_wp2_with fail
        refine (CF.out _).mono ?_
        rintro e w3 ⟨rfl, b3⟩
        have hB3 : RowKit.Below w1.heap.size w1 w3 := hBw.trans (RowKit.Below.trans (show RowKit.Below wv.heap.size wv _ from (by repeat (first | with_reducible assumption | with_reducible exact Below.refl _ _ | with_reducible refine Below.setCell ?_ (by first | exact Nat.le_refl _ | (simp; done) | (simp; omega)) _ | with_reducible refine bal ?_ _ | with_reducible refine Below.alloc ?_ (by first | exact Nat.le_refl _ | (simp; done) | (simp; omega)) _ | with_reducible refine Below.drew ?_))) (b3.mono (by simp)) |>.mono hBw.size)
        clear b3 CF
        go_wp2_with fail
        have XF := Box.new w3 uf.cells 63
        have hB4 := bal hB3 (.cells uf.cells 63)
        generalize w3.alloc (.cells uf.cells 63) = W at *
        have HB4 := hide hB4
        have hBW := RowKit.Below.refl W.heap.size W
        have KF : ∀ w', RowKit.Below W.heap.size W w' → ∀ i, w'.cell? ⟨w3.heap.size, i, none⟩ = (uf.cells)[i]? := fun w' h => (XF.later h).c
        clear hB4 hB3 XF
        go_region_held3 (fun w' => RowKit.Below W.heap.size W w') (first | with_reducible assumption | exact (by repeat (first | with_reducible assumption | with_reducible exact Below.refl _ _ | with_reducible refine Below.setCell ?_ (by first | exact Nat.le_refl _ | (simp; done) | (simp; omega)) _ | with_reducible refine bal ?_ _ | with_reducible refine Below.alloc ?_ (by first | exact Nat.le_refl _ | (simp; done) | (simp; omega)) _ | with_reducible refine Below.drew ?_))) (first
          | (go_at_call 139; refine (CB.out _).mono ?_; rintro e w4 ⟨rfl, b4⟩; have b4 : RowKit.Below W.heap.size W w4 := (by refine Below.trans ?_ (Below.mono b4 ?_); rotate_left; exact Below.size (by with_reducible assumption); with_reducible assumption))
          | (go_at_call 102; refine (CO.out _ (HB4.out.trans (b4.mono HB4.out.size))).mono ?_; rintro e w5 ⟨v5, rfl, o5, b5⟩; have s4 := b4.size; have b5 : RowKit.Below W.heap.size W w5 := (by refine Below.trans ?_ (Below.mono b5 ?_); rotate_left; exact Below.size (by with_reducible assumption); with_reducible assumption)))
        clear KF CB CO
        go_wp2_with fail
        exact bodyPost_ret (v := .tuple #[v5, .bool true]) (by simp [results, Tryz.results119, go_sem]) rfl ⟨by rw [HW2.out]; exact ⟨v5, rfl, o5.base (by have := HB4.out.size; omega)⟩, HB4.out.trans (b5.mono HB4.out.size)⟩
      · have HW3 : Hid (Sp.wildM s.data.toList = Sp.wild1 o2) := HW.out.trans (if_neg hpre)
        clear HW
        have HW := HW3
        clear HW3
        obtain ⟨ya, yb, yc, yp⟩ := v
        have hemp1 : yp.toList.isEmpty = false := by
          have : ¬ yp.data.toList = [] := hpre
          rw [toList_data]; simpa using this
        clear hpre hq1
        go_wp2_with fail
        have hBv : RowKit.Below w1.heap.size w1 (wv.alloc (.cells #[.int .i64 ya, .int .i64 yb, .int .i64 yc, .string yp] 37)) := bal hBw _
        refine (CP2.out _ hBv).mono ?_
        rintro e w2 ⟨rfl, b2⟩
        have hBw := RowKit.Below.trans hBv (b2.mono hBv.size)
        clear b2 CP2
        generalize w2 = wv at *
        cases o2 with
        | none =>
          have HW2 : Hid (Sp.wildM s.data.toList = none) := HW
          simp only [pret, Option.getD_none, Option.isSome_none]
          go_wp2_with fail
          exact bodyPost_ret (v := .tuple #[.slice none 0 0, .bool false]) (by simp [results, Tryz.results119, go_sem]) rfl ⟨by rw [HW2.out]; rfl, (by repeat (first | with_reducible assumption | with_reducible exact Below.refl _ _ | with_reducible refine Below.setCell ?_ (by first | exact Nat.le_refl _ | (simp; done) | (simp; omega)) _ | with_reducible refine bal ?_ _ | with_reducible refine Below.alloc ?_ (by first | exact Nat.le_refl _ | (simp; done) | (simp; omega)) _ | with_reducible refine Below.drew ?_))⟩
        | some u =>
          simp only [pret, Option.getD_some, Option.isSome_some]
          by_cases hpre : u.p.data.toList = []
          · have HW2 : Hid (Sp.wildM s.data.toList = some (Sp.only Sp.cmpC (Sp.firstC u.a 0 0) (Sp.bumpA ⟨u.a, 0, 0, ⟨#[48]⟩⟩))) := HW.out.trans (if_pos hpre)
            have ho := hq2 rfl
            have hp := Sp.parts_ok ho
            have okF : Sp.okC (Sp.firstC u.a 0 0) := Sp.ok_first hp.1 (by omega) (by omega)
            have okv : (V.mk u.a 0 0 ⟨#[48]⟩).ok = true := okF _ rfl
            have CF : Hid (∀ W, Calls Tryz.prog 52 #[.int .i64 u.a, .int .i64 0, .int .i64 0] W fun e w' => e = .returned (pl (Sp.firstC u.a 0 0)).val ∧ RowKit.Below W.heap.size W w') := fun W => first_raw _ _ _ W
            have CB : Hid (∀ W, Calls Tryz.prog 140 #[(pl (Sp.firstC u.a 0 0)).val] W fun e w' => e = .returned (pl (Sp.bumpA ⟨u.a, 0, 0, ⟨#[48]⟩⟩)).val ∧ RowKit.Below W.heap.size W w') := fun W => bumpA_any ⟨u.a, 0, 0, ⟨#[48]⟩⟩ false W okv
            have CO : Hid (∀ W, RowKit.Below w1.heap.size w1 W → Calls Tryz.prog 102 #[(pl (Sp.firstC u.a 0 0)).val, (pl (Sp.bumpA ⟨u.a, 0, 0, ⟨#[48]⟩⟩)).val] W fun e w' => ∃ v', e = .returned v' ∧ EOwn ES w' W.heap.size v' (Sp.only Sp.cmpC (Sp.firstC u.a 0 0) (Sp.bumpA ⟨u.a, 0, 0, ⟨#[48]⟩⟩)) ∧ RowKit.Below W.heap.size W w') := fun W hW => by rw [← pl_val, ← pl_val]; exact only_any _ _ okF (Sp.ok_bumpA okv) W (HE.out.later hW)
            generalize Sp.only Sp.cmpC (Sp.firstC u.a 0 0) (Sp.bumpA ⟨u.a, 0, 0, ⟨#[48]⟩⟩) = lo1 at *
            generalize pl (Sp.bumpA ⟨u.a, 0, 0, ⟨#[48]⟩⟩) = ub at *
            generalize pl (Sp.firstC u.a 0 0) = uf at *
            clear okF okv ho hp
            obtain ⟨xa, xb, xc, xp⟩ := u
            have hemp : xp.toList.isEmpty = true := by
              have : xp.data.toList = [] := hpre
              rw [toList_data, this]; rfl
            clear hpre
            go_wp2_with fail
            refine (CF.out _).mono ?_
            rintro e w3 ⟨rfl, b3⟩
            have hB3 : RowKit.Below w1.heap.size w1 w3 := hBw.trans (RowKit.Below.trans (show RowKit.Below wv.heap.size wv _ from (by repeat (first | with_reducible assumption | with_reducible exact Below.refl _ _ | with_reducible refine Below.setCell ?_ (by first | exact Nat.le_refl _ | (simp; done) | (simp; omega)) _ | with_reducible refine bal ?_ _ | with_reducible refine Below.alloc ?_ (by first | exact Nat.le_refl _ | (simp; done) | (simp; omega)) _ | with_reducible refine Below.drew ?_))) (b3.mono (by simp)) |>.mono hBw.size)
            clear b3 CF
            go_wp2_with fail
            have XF := Box.new w3 uf.cells 63
            have hB4 := bal hB3 (.cells uf.cells 63)
            generalize w3.alloc (.cells uf.cells 63) = W at *
            have HB4 := hide hB4
            have hBW := RowKit.Below.refl W.heap.size W
            have KF : ∀ w', RowKit.Below W.heap.size W w' → ∀ i, w'.cell? ⟨w3.heap.size, i, none⟩ = (uf.cells)[i]? := fun w' h => (XF.later h).c
            clear hB4 hB3 XF
            go_region_held3 (fun w' => RowKit.Below W.heap.size W w') (first | with_reducible assumption | exact (by repeat (first | with_reducible assumption | with_reducible exact Below.refl _ _ | with_reducible refine Below.setCell ?_ (by first | exact Nat.le_refl _ | (simp; done) | (simp; omega)) _ | with_reducible refine bal ?_ _ | with_reducible refine Below.alloc ?_ (by first | exact Nat.le_refl _ | (simp; done) | (simp; omega)) _ | with_reducible refine Below.drew ?_))) (first
              | (go_at_call 140; refine (CB.out _).mono ?_; rintro e w4 ⟨rfl, b4⟩; have b4 : RowKit.Below W.heap.size W w4 := (by refine Below.trans ?_ (Below.mono b4 ?_); rotate_left; exact Below.size (by with_reducible assumption); with_reducible assumption))
              | (go_at_call 102; refine (CO.out _ (HB4.out.trans (b4.mono HB4.out.size))).mono ?_; rintro e w5 ⟨v5, rfl, o5, b5⟩; have s4 := b4.size; have b5 : RowKit.Below W.heap.size W w5 := (by refine Below.trans ?_ (Below.mono b5 ?_); rotate_left; exact Below.size (by with_reducible assumption); with_reducible assumption)))
            clear KF CB CO
            go_wp2_with fail
            exact bodyPost_ret (v := .tuple #[v5, .bool true]) (by simp [results, Tryz.results119, go_sem]) rfl ⟨by rw [HW2.out]; exact ⟨v5, rfl, o5.base (by have := HB4.out.size; omega)⟩, HB4.out.trans (b5.mono HB4.out.size)⟩
          · have HW2 : Hid (Sp.wildM s.data.toList = none) := HW.out.trans (if_neg hpre)
            obtain ⟨xa, xb, xc, xp⟩ := u
            have hemp : xp.toList.isEmpty = false := by
              have : ¬ xp.data.toList = [] := hpre
              rw [toList_data]; simpa using this
            clear hpre
            go_wp2_with fail
            exact bodyPost_ret (v := .tuple #[.slice none 0 0, .bool false]) (by simp [results, Tryz.results119, go_sem]) rfl ⟨by rw [HW2.out]; rfl, (by repeat (first | with_reducible assumption | with_reducible exact Below.refl _ _ | with_reducible refine Below.setCell ?_ (by first | exact Nat.le_refl _ | (simp; done) | (simp; omega)) _ | with_reducible refine bal ?_ _ | with_reducible refine Below.alloc ?_ (by first | exact Nat.le_refl _ | (simp; done) | (simp; omega)) _ | with_reducible refine Below.drew ?_))⟩
  · have h1 : hasSuffix s.data.toList [46, 120] = false := by rw [suffix_is]; simpa using hd
    have HW : Hid (Sp.wildM s.data.toList = none) := by show _ = _; unfold Sp.wildM; rw [if_neg hd]
    rw [h1] at CC
    generalize str (trimSuffix s.data.toList [46, 120]) = x at *
    go_enter Tryz.func119, Tryz.ntmps119
    go_wp2_with fail
    refine CC.out.mono ?_
    rintro e w1 ⟨rfl, rfl⟩
    go_wp2_with fail
    exact bodyPost_ret (v := .tuple #[.slice none 0 0, .bool false]) (by simp [results, Tryz.results119, go_sem]) rfl ⟨by rw [HW.out]; rfl, RowKit.Below.refl _ _⟩

theorem wildM_ok {s : Bs} {l : List Sp.S} (h : Sp.wildM s = some l) : Sp.okL l ∧ Sp.Normed l := by
  have k1 : ∀ o, (∀ u, o = some u → u.ok = true) → ∀ l, Sp.wild1 o = some l → Sp.okL l ∧ Sp.Normed l := by
    intro o ho l h
    cases o with
    | none => exact nomatch h
    | some u =>
      unfold Sp.wild1 at h
      simp only at h
      split at h
      · cases h
        have hp := Sp.parts_ok (ho u rfl)
        have okF : Sp.okC (Sp.firstC u.a 0 0) := Sp.ok_first hp.1 (by omega) (by omega)
        exact ⟨Sp.ok_only okF (Sp.ok_bumpA (okF _ rfl)), Sp.nm_only _ _⟩
      · exact nomatch h
  unfold Sp.wildM at h
  split at h
  · unfold Sp.wild2 at h
    split at h
    · rename_i v hv
      split at h
      · cases h
        have hp := Sp.parts_ok (parse_ok' hv)
        have okF : Sp.okC (Sp.firstC v.a v.b 0) := Sp.ok_first hp.1 hp.2.1 (by omega)
        exact ⟨Sp.ok_only okF (Sp.ok_bumpB (okF _ rfl)), Sp.nm_only _ _⟩
      · exact k1 _ (fun u hu => parse_ok' hu) l h
    · exact k1 _ (fun u hu => parse_ok' hu) l h
  · exact nomatch h
theorem notL_nil : Sp.okL (Sp.notL []) ∧ Sp.Normed (Sp.notL []) := ⟨Sp.ok_not (fun _ h => nomatch h), Sp.not_nm trivial⟩
theorem meantM_ok {s : Bs} {l : List Sp.S} (h : Sp.meantM s = some l) : Sp.okL l ∧ Sp.Normed l := by
  unfold Sp.meantM at h
  split at h
  · cases h; exact notL_nil
  · split at h
    · rename_i hw
      cases h
      exact wildM_ok hw
    · cases hv : parse (s.drop (Sp.vAt s)) with
      | none => rw [hv] at h; exact nomatch h
      | some v => rw [hv] at h; exact Sp.ok_signed (parse_ok' hv) h
end Go.Proofs.YthihnpjbdjmbhaaGreatDoor

namespace Go.Proofs.YthihnpjbdjmbhaaGreatDoor
set_option linter.unusedSimpArgs false
set_option linter.unusedVariables false
open Go.RowKit Go.Vr Go.Sort Go.Tx Go.Lib
attribute [local go_sem] setCellDrewN allocDrewN

theorem index_bd : ∀ (l : Bs) (c : UInt8), -1 ≤ indexByte l c ∧ indexByte l c < l.length ∨ (indexByte l c = -1)
  | [], c => .inr rfl
  | b :: l, c => by
    have ih := index_bd l c
    unfold indexByte
    split
    · exact .inl (by simp)
    · split
      · exact .inr rfl
      · rename_i h
        have h2 : ¬ indexByte l c = -1 := by simpa using h
        rcases ih with ih | ih
        · exact .inl (by rw [List.length_cons]; omega)
        · exact absurd ih h2
theorem vAt_le (l : Bs) : Sp.vAt l ≤ l.length ∧ max (indexByte l 118) 0 = (Sp.vAt l : Int) := by
  have h := index_bd l 118
  unfold Sp.vAt
  omega

set_option maxHeartbeats 8000000 in
set_option maxRecDepth 100000 in
theorem meant_any (s : ByteArray) (w : World) (hs : s.size ≤ 3900) (he : Env w) :
    Calls Tryz.prog 100 #[.string s] w fun e w' => Told w w' e (Sp.meantM s.data.toList) ∧ RowKit.Below w.heap.size w w' := by
  have HE := hide he
  clear he
  by_cases hstar : s.data.toList = [42]
  · have e : s = ⟨#[42]⟩ := ba_ext hstar
    subst e
    have HM : Hid (Sp.meantM (ByteArray.mk #[42]).data.toList = some (Sp.notL [])) := rfl
    have CN : Hid (Calls Tryz.prog 11 #[.slice none 0 0] w fun e w' => ∃ v', e = .returned v' ∧ EOwn ES w' w.heap.size v' (Sp.notL []) ∧ RowKit.Below w.heap.size w w') := not_any none 0 0 [] w (ERow.none w) (by omega) (fun _ h => nomatch h) HE.out
    go_enter Tryz.func100, Tryz.ntmps100
    go_wp2_with fail
    refine CN.out.mono ?_
    rintro e w1 ⟨v1, rfl, o1, b1⟩
    clear CN
    go_wp2_with fail
    exact bodyPost_ret (v := .tuple #[v1, .bool true]) (by simp [results, Tryz.results100, go_sem]) rfl ⟨by rw [HM.out]; exact ⟨v1, rfl, o1⟩, b1⟩
  · have hst : (s.toList == [42]) = false := by rw [toList_data]; simpa using hstar
    have CW := hide (wild_any s w hs HE.out)
    cases hw : Sp.wildM s.data.toList with
    | some l =>
      have HM : Hid (Sp.meantM s.data.toList = some l) := by show _ = _; unfold Sp.meantM; rw [if_neg hstar, hw]
      rw [hw] at CW
      clear hstar hw
      go_enter Tryz.func100, Tryz.ntmps100
      go_wp2_with fail
      refine CW.out.mono ?_
      rintro e w1 ⟨⟨v1, rfl, o1⟩, b1⟩
      clear CW
      go_wp2_with fail
      exact bodyPost_ret (v := .tuple #[v1, .bool true]) (by simp [results, Tryz.results100, go_sem]) rfl ⟨by rw [HM.out]; exact ⟨v1, rfl, o1⟩, b1⟩
    | none =>
      obtain ⟨k1, k2⟩ := vAt_le s.data.toList
      have HM : Hid (Sp.meantM s.data.toList = Sp.meant2 (s.data.toList.take (Sp.vAt s.data.toList)) (parse (s.data.toList.drop (Sp.vAt s.data.toList)))) := by show _ = _; unfold Sp.meantM; rw [if_neg hstar, hw]
      rw [hw] at CW
      have CI := hide (fun W => indexByte_any s 118 W)
      rw [len_eq] at k1
      have hx : (s.extract 0 (Sp.vAt s.data.toList)).data.toList = s.data.toList.take (Sp.vAt s.data.toList) := by simp [ByteArray.data_extract]
      have hy : (s.extract (Sp.vAt s.data.toList) s.size).data.toList = s.data.toList.drop (Sp.vAt s.data.toList) := by
        simp only [ByteArray.data_extract, Array.toList_extract, List.extract_eq_take_drop]
        rw [List.take_of_length_le (by rw [List.length_drop, len_eq]; exact Nat.le_refl _)]
      have hz : (s.extract (Sp.vAt s.data.toList) s.size).size ≤ 4000 := by rw [← len_eq, hy, List.length_drop, len_eq]; omega
      have CP : Hid (∀ W, RowKit.Below w.heap.size w W → Calls Tryz.prog 101 #[.string (s.extract (Sp.vAt s.data.toList) s.size)] W fun e w' => e = .returned (pret (parse (s.data.toList.drop (Sp.vAt s.data.toList)))) ∧ RowKit.Below W.heap.size W w') := fun W hW => by
        have := parse_any (s.extract (Sp.vAt s.data.toList) s.size) W hz (HE.out.later hW)
        rw [hy] at this; exact this
      have CS : Hid (∀ W v, RowKit.Below w.heap.size w W → v.ok = true → Calls Tryz.prog 121 #[.string (s.extract 0 (Sp.vAt s.data.toList)), val v] W fun e w' => Told W w' e (Sp.signedM (s.data.toList.take (Sp.vAt s.data.toList)) v) ∧ RowKit.Below W.heap.size W w') := fun W v hW hv => by
        have := signed_any (s.extract 0 (Sp.vAt s.data.toList)) v W hv (HE.out.later hW)
        rw [hx] at this; exact this
      have hq := @parse_ok' (s.data.toList.drop (Sp.vAt s.data.toList))
      generalize parse (s.data.toList.drop (Sp.vAt s.data.toList)) = o at *
      generalize s.data.toList.take (Sp.vAt s.data.toList) = g at *
      clear hstar hw hx hy hz
      go_enter Tryz.func100, Tryz.ntmps100
      go_wp2_with fail
      refine CW.out.mono ?_
      rintro e w1 ⟨e1, b1⟩
      have e1 : e = .returned (.tuple #[.slice none 0 0, .bool false]) := e1
      subst e1
      clear CW
      go_wp2_with fail
      refine (CI.out _).mono ?_
      rintro e w2 ⟨rfl, rfl⟩
      clear CI
      go_wp2_with fail
      refine (CP.out _ b1).mono ?_
      rintro e w3 ⟨rfl, b3⟩
      have hB3 := b1.trans (b3.mono b1.size)
      clear CP b3
      cases o with
      | none =>
        have HM2 : Hid (Sp.meantM s.data.toList = none) := HM
        simp only [pret, Option.getD_none, Option.isSome_none]
        go_wp2_with fail
        exact bodyPost_ret (v := .tuple #[.slice none 0 0, .bool false]) (by simp [results, Tryz.results100, go_sem]) rfl ⟨by rw [HM2.out]; rfl, (by repeat (first | with_reducible assumption | with_reducible exact Below.refl _ _ | with_reducible refine Below.setCell ?_ (by first | exact Nat.le_refl _ | (simp; done) | (simp; omega)) _ | with_reducible refine bal ?_ _ | with_reducible refine Below.alloc ?_ (by first | exact Nat.le_refl _ | (simp; done) | (simp; omega)) _ | with_reducible refine Below.drew ?_))⟩
      | some v =>
        have HM2 : Hid (Sp.meantM s.data.toList = Sp.signedM g v) := HM
        have hv := hq rfl
        have HV := hide hv
        have CS2 := hide (fun W hW => CS.out W v hW hv)
        clear HM hq CS hv
        simp only [pret, Option.getD_some, Option.isSome_some]
        go_wp2_with fail
        refine (CS2.out _ (by exact bal hB3 _)).mono ?_
        rintro e w4 ⟨t4, b4⟩
        have hB4 : RowKit.Below w.heap.size w w4 := step (bal hB3 _) b4
        have s3 := hB3.size
        have HT : Hid (Told w w4 e (Sp.signedM g v)) := by
          cases hsg : Sp.signedM g v with
          | none => rw [hsg] at t4; exact t4
          | some l => rw [hsg] at t4; obtain ⟨v', h1, h2⟩ := t4; exact ⟨v', h1, h2.base (by simp; omega)⟩
        clear t4 b4 CS2
        cases hsg : Sp.signedM g v with
        | none =>
          rw [hsg] at HT HM2
          have he : e = .returned (.tuple #[.slice none 0 0, .bool false]) := HT
          subst he
          clear hsg
          go_wp2_with fail
          exact bodyPost_ret (v := .tuple #[.slice none 0 0, .bool false]) (by simp [results, Tryz.results100, go_sem]) rfl ⟨by rw [HM2.out]; rfl, hB4⟩
        | some l =>
          rw [hsg] at HT HM2
          obtain ⟨v', rfl, o'⟩ := HT.out
          clear hsg HT
          go_wp2_with fail
          exact bodyPost_ret (v := .tuple #[v', .bool true]) (by simp [results, Tryz.results100, go_sem]) rfl ⟨by rw [HM2.out]; exact ⟨v', rfl, o'⟩, hB4⟩
end Go.Proofs.YthihnpjbdjmbhaaGreatDoor

namespace Go.Sp
set_option linter.unusedVariables false
open Go.Vr Go.Tx

def isW (c : UInt8) : Bool := !(c == 32 || c == 124)
/-- The word that is next; behind the blanks. -/
def wordM (s : Bs) (p : Nat) : Bs := (s.drop p).takeWhile isW
def blM (s : Bs) (p : Nat) : Nat := p + ((s.drop p).takeWhile (· == 32)).length
theorem word_len (s : Bs) (p : Nat) : (wordM s p).length ≤ s.length - p := by
  have h : (s.drop p).length = s.length - p := List.length_drop
  have := (List.takeWhile_sublist isW (l := s.drop p)).length_le
  unfold wordM; omega
theorem bl_le (s : Bs) (p : Nat) (h : p ≤ s.length) : p ≤ blM s p ∧ blM s p ≤ s.length := by
  have h2 : (s.drop p).length = s.length - p := List.length_drop
  have := (List.takeWhile_sublist (· == 32) (l := s.drop p)).length_le
  unfold blM; omega
theorem meant_nil : meantM [] = none := by decide +kernel

/-- One of those that hold together: its spans, or none; where the reading is then. -/
def item2 (s : Bs) (p : Nat) (v : V) : Option (List S) × Nat := match parse (wordM s (blM s (p + 1))) with
  | none => (none, blM s (p + 1))
  | some u => (some (only cmpC (some (v, false)) (some (u, true))), blM s (p + 1) + (wordM s (blM s (p + 1))).length)
def item1 (s : Bs) (p : Nat) (l : List S) : Option V → Option (List S) × Nat
  | none => (some l, p)
  | some v => if wordM s p = [45] then item2 s p v else (some l, p)
def itemM (s : Bs) (p : Nat) : Option (List S) × Nat := match meantM (wordM s p) with
  | none => (none, p)
  | some l => item1 s (blM s (p + (wordM s p).length)) l (parse (wordM s p))

theorem item_le (s : Bs) (p : Nat) (h : p ≤ s.length) : p ≤ (itemM s p).2 ∧ (itemM s p).2 ≤ s.length ∧ ((itemM s p).1 ≠ none → p < (itemM s p).2) := by
  unfold itemM
  have hw := word_len s p
  cases hm : meantM (wordM s p) with
  | none => exact ⟨Nat.le_refl _, h, fun k => absurd rfl k⟩
  | some l =>
    have hne : wordM s p ≠ [] := by
      intro e; rw [e, meant_nil] at hm; exact nomatch hm
    have hl := List.length_pos_iff.2 hne
    have h1 := bl_le s (p + (wordM s p).length) (by omega)
    simp only
    unfold item1
    cases parse (wordM s p) with
    | none => exact ⟨by simp only; omega, by simp only; omega, fun _ => by simp only; omega⟩
    | some v =>
      simp only
      split
      · rename_i he
        have hw2 := word_len s (blM s (p + (wordM s p).length))
        rw [he] at hw2
        simp only [List.length_cons, List.length_nil] at hw2
        have h2 := bl_le s (blM s (p + (wordM s p).length) + 1) (by omega)
        have hw3 := word_len s (blM s (blM s (p + (wordM s p).length) + 1))
        unfold item2
        split
        · exact ⟨by simp only; omega, by simp only; omega, fun k => absurd rfl k⟩
        · exact ⟨by simp only; omega, by simp only; omega, fun _ => by simp only; omega⟩
      · exact ⟨by simp only; omega, by simp only; omega, fun _ => by simp only; omega⟩

/-- A part: up to the next bar, or the end. -/
def partG (s : Bs) : Nat → Nat → List (List S) → Option (List S) × Nat
  | 0, p, _ => (none, p)
  | n + 1, p, acc => match itemM s p with
    | (none, q) => (none, q)
    | (some l, q) => if blM s q = s.length ∨ s[blM s q]? = some 124 then (some (allL (acc ++ [l])), blM s q) else partG s n (blM s q) (acc ++ [l])
def partM (s : Bs) (p : Nat) : Option (List S) × Nat := partG s (s.length + 1) (blM s p) []
/-- The parts. -/
def partsG (s : Bs) : Nat → Nat → List (List S) → Option (List S) × Nat
  | 0, p, _ => (none, p)
  | n + 1, p, acc => match partM s p with
    | (none, q) => (none, q)
    | (some l, q) => if q = s.length then (some (nrm (acc ++ [l]).flatten), q) else
      if s[q + 1]? = some 124 then partsG s n (q + 2) (acc ++ [l]) else (none, q + 1)
def parseS (s : Bs) : Option (List S) × Nat := partsG s (s.length + 1) 0 []
end Go.Sp
