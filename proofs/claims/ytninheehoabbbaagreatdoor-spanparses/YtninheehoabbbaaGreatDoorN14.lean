/-
  Contracts of wild, meant.
-/
import Derived.Test.YtninheehoabbbaaGreatDoorN13
import Derived.Test.YtninheehoabbbaaGreatDoorU6
namespace Go.Proofs.YtninheehoabbbaaGreatDoor
set_option linter.unusedSimpArgs false
set_option linter.unusedVariables false
open Go.RowKit Go.Vr Go.Sort Go.Tx Go.Lib
attribute [local go_sem] setCellDrewN allocDrewN

theorem parse_ok' {s : Bs} {v : V} (h : parse s = some v) : v.ok = true := by
  rw [parse_is] at h
  split at h
  · rename_i k; cases h; exact k.1
  · cases h
theorem cutSuffix_any (s : ByteArray) (w : World) (hs : s.size ≤ 100000) :
    Calls Tryz.prog 138 #[.string s, .string ⟨#[46, 120]⟩] w fun e w' => e = .returned (.tuple #[.string (str (trimSuffix s.data.toList [46, 120])), .bool (hasSuffix s.data.toList [46, 120])]) ∧ w' = w := Any.strings_CutSuffix Tryz.lays104 s ⟨#[46, 120]⟩ w (by omega)
theorem suffix_is (s : Bs) : hasSuffix s [46, 120] = decide (s.drop (s.length - 2) = [46, 120]) := by
  unfold hasSuffix
  by_cases h : s.drop (s.length - 2) = [46, 120]
  · have : [46, 120] <:+ s := ⟨s.take (s.length - 2), by rw [← h, List.take_append_drop]⟩
    rw [decide_eq_true h]
    exact List.isSuffixOf_iff_suffix.2 this
  · have : ¬ [46, 120] <:+ s := by
      rintro ⟨t, rfl⟩
      exact h (by simp)
    rw [decide_eq_false h]
    cases e : [46, 120].isSuffixOf s with
    | false => rfl
    | true => exact absurd (List.isSuffixOf_iff_suffix.1 e) this

set_option maxHeartbeats 16000000 in
set_option maxRecDepth 100000 in
theorem wild_any (s : ByteArray) (w : World) (hs : s.size ≤ 3900) (he : Env w) :
    Calls Tryz.prog 119 #[.string s] w fun e w' => Told w w' e (Sp.wildM s.data.toList) ∧ RowKit.Below w.heap.size w w' := by
  have CC := hide (cutSuffix_any s w (by omega))
  have HE := hide he
  clear he
  by_cases hd : s.data.toList.drop (s.data.toList.length - 2) = [46, 120]
  · have h1 : hasSuffix s.data.toList [46, 120] = true := by rw [suffix_is]; simpa using hd
    have h2 : trimSuffix s.data.toList [46, 120] = s.data.toList.take (s.data.toList.length - 2) := by unfold trimSuffix; rw [if_pos h1]; rfl
    rw [h1, h2] at CC
    have HW : Hid (Sp.wildM s.data.toList = Sp.wild2 (parse (s.data.toList.take (s.data.toList.length - 2) ++ [46, 48])) (parse (s.data.toList.take (s.data.toList.length - 2) ++ [46, 48, 46, 48]))) := by show _ = _; unfold Sp.wildM; rw [if_pos hd]
    have hx : (str (s.data.toList.take (s.data.toList.length - 2))).size ≤ 3900 := by rw [Tx.str_size, List.length_take, len_eq]; omega
    have hx2 : (str (s.data.toList.take (s.data.toList.length - 2))).data.toList = s.data.toList.take (s.data.toList.length - 2) := str_list _
    rw [← hx2] at HW
    clear h1 h2 hd hx2
    generalize str (s.data.toList.take (s.data.toList.length - 2)) = x at *
    have e1 : (x ++ ⟨#[46, 48]⟩).data.toList = x.data.toList ++ [46, 48] := by rw [ba_app]
    have e2 : (x ++ ⟨#[46, 48, 46, 48]⟩).data.toList = x.data.toList ++ [46, 48, 46, 48] := by rw [ba_app]
    have z1 : (x ++ ⟨#[46, 48]⟩).size ≤ 4000 := by rw [ByteArray.size_append]; have : (ByteArray.mk #[46, 48]).size = 2 := rfl; omega
    have z2 : (x ++ ⟨#[46, 48, 46, 48]⟩).size ≤ 4000 := by rw [ByteArray.size_append]; have : (ByteArray.mk #[46, 48, 46, 48]).size = 4 := rfl; omega
    have CP1 : Hid (∀ W, RowKit.Below w.heap.size w W → Calls Tryz.prog 101 #[.string (x ++ ⟨#[46, 48]⟩)] W fun e w' => e = .returned (pret (parse (x.data.toList ++ [46, 48]))) ∧ RowKit.Below W.heap.size W w') := fun W hW => by
      have := parse_any (x ++ ⟨#[46, 48]⟩) W z1 (HE.out.later hW)
      rw [e1] at this; exact this
    have CP2 : Hid (∀ W, RowKit.Below w.heap.size w W → Calls Tryz.prog 101 #[.string (x ++ ⟨#[46, 48, 46, 48]⟩)] W fun e w' => e = .returned (pret (parse (x.data.toList ++ [46, 48, 46, 48]))) ∧ RowKit.Below W.heap.size W w') := fun W hW => by
      have := parse_any (x ++ ⟨#[46, 48, 46, 48]⟩) W z2 (HE.out.later hW)
      rw [e2] at this; exact this
    have n1 : ¬ 9223372036854775807 < x.size + 2 := by omega
    have n2 : ¬ 9223372036854775807 < x.size + 4 := by omega
    clear e1 e2 z1 z2
    have hq1 := @parse_ok' (x.data.toList ++ [46, 48])
    have hq2 := @parse_ok' (x.data.toList ++ [46, 48, 46, 48])
    generalize parse (x.data.toList ++ [46, 48]) = o1 at *
    generalize parse (x.data.toList ++ [46, 48, 46, 48]) = o2 at *
    go_enter Tryz.func119, Tryz.ntmps119
    go_wp2_with fail
    refine CC.out.mono ?_
    rintro e w1 ⟨rfl, rfl⟩
    have hBw1 := RowKit.Below.refl w1.heap.size w1
    go_wp2_with fail
    refine (CP1.out _ hBw1).mono ?_
    rintro e w1' ⟨rfl, b1⟩
    clear hBw1 CP1 CC
    have hBw := b1
    generalize w1' = wv at *
    cases o1 with
    | none =>
      have HW : Hid (Sp.wildM s.data.toList = Sp.wild1 o2) := HW
      simp only [pret, Option.getD_none, Option.isSome_none]
      go_wp2_with fail
      have hBv : RowKit.Below w1.heap.size w1 (wv.alloc (.cells #[.int .i64 V.zero.a, .int .i64 V.zero.b, .int .i64 V.zero.c, .string V.zero.p] 37)) := bal hBw _
      refine (CP2.out _ hBv).mono ?_
      rintro e w2 ⟨rfl, b2⟩
      have hBw := RowKit.Below.trans hBv (b2.mono hBv.size)
      clear b2 CP2
      generalize w2 = wv at *
      cases o2 with
      | none =>
        have HW2 : Hid (Sp.wildM s.data.toList = none) := HW
        simp only [pret, Option.getD_none, Option.isSome_none]
        go_wp2_with fail
        exact bodyPost_ret (v := .tuple #[.slice none 0 0, .bool false]) (by simp [results, Tryz.results119, go_sem]) rfl ⟨by rw [HW2.out]; rfl, (by repeat (first | with_reducible assumption | with_reducible exact Below.refl _ _ | with_reducible refine Below.setCell ?_ (by first | exact Nat.le_refl _ | (simp; done) | (simp; omega)) _ | with_reducible refine bal ?_ _ | with_reducible refine Below.alloc ?_ (by first | exact Nat.le_refl _ | (simp; done) | (simp; omega)) _ | with_reducible refine Below.drew ?_))⟩
      | some u =>
        simp only [pret, Option.getD_some, Option.isSome_some]
        by_cases hpre : u.p.data.toList = []
        · have HW2 : Hid (Sp.wildM s.data.toList = some (Sp.only Sp.cmpC (Sp.firstC u.a 0 0) (Sp.bumpA ⟨u.a, 0, 0, ⟨#[48]⟩⟩))) := HW.out.trans (if_pos hpre)
          have ho := hq2 rfl
          have hp := Sp.parts_ok ho
          have okF : Sp.okC (Sp.firstC u.a 0 0) := Sp.ok_first hp.1 (by omega) (by omega)
          have okv : (V.mk u.a 0 0 ⟨#[48]⟩).ok = true := okF _ rfl
          have CF : Hid (∀ W, Calls Tryz.prog 52 #[.int .i64 u.a, .int .i64 0, .int .i64 0] W fun e w' => e = .returned (pl (Sp.firstC u.a 0 0)).val ∧ RowKit.Below W.heap.size W w') := fun W => first_raw _ _ _ W
          have CB : Hid (∀ W, Calls Tryz.prog 140 #[(pl (Sp.firstC u.a 0 0)).val] W fun e w' => e = .returned (pl (Sp.bumpA ⟨u.a, 0, 0, ⟨#[48]⟩⟩)).val ∧ RowKit.Below W.heap.size W w') := fun W => bumpA_any ⟨u.a, 0, 0, ⟨#[48]⟩⟩ false W okv
          have CO : Hid (∀ W, RowKit.Below w1.heap.size w1 W → Calls Tryz.prog 102 #[(pl (Sp.firstC u.a 0 0)).val, (pl (Sp.bumpA ⟨u.a, 0, 0, ⟨#[48]⟩⟩)).val] W fun e w' => ∃ v', e = .returned v' ∧ EOwn ES w' W.heap.size v' (Sp.only Sp.cmpC (Sp.firstC u.a 0 0) (Sp.bumpA ⟨u.a, 0, 0, ⟨#[48]⟩⟩)) ∧ RowKit.Below W.heap.size W w') := fun W hW => by rw [← pl_val, ← pl_val]; exact only_any _ _ okF (Sp.ok_bumpA okv) W (HE.out.later hW)
          generalize Sp.only Sp.cmpC (Sp.firstC u.a 0 0) (Sp.bumpA ⟨u.a, 0, 0, ⟨#[48]⟩⟩) = lo1 at *
          generalize pl (Sp.bumpA ⟨u.a, 0, 0, ⟨#[48]⟩⟩) = ub at *
          generalize pl (Sp.firstC u.a 0 0) = uf at *
          clear okF okv ho hp
          obtain ⟨xa, xb, xc, xp⟩ := u
          have hemp : xp.toList.isEmpty = true := by
            have : xp.data.toList = [] := hpre
            rw [toList_data, this]; rfl
          clear hpre
          go_wp2_with fail
          refine (CF.out _).mono ?_
          rintro e w3 ⟨rfl, b3⟩
          have hB3 : RowKit.Below w1.heap.size w1 w3 := hBw.trans (RowKit.Below.trans (show RowKit.Below wv.heap.size wv _ from (by repeat (first | with_reducible assumption | with_reducible exact Below.refl _ _ | with_reducible refine Below.setCell ?_ (by first | exact Nat.le_refl _ | (simp; done) | (simp; omega)) _ | with_reducible refine bal ?_ _ | with_reducible refine Below.alloc ?_ (by first | exact Nat.le_refl _ | (simp; done) | (simp; omega)) _ | with_reducible refine Below.drew ?_))) (b3.mono (by simp)) |>.mono hBw.size)
          clear b3 CF
          go_wp2_with fail
          have XF := Box.new w3 uf.cells 63
          have hB4 := bal hB3 (.cells uf.cells 63)
          generalize w3.alloc (.cells uf.cells 63) = W at *
          have HB4 := hide hB4
          have hBW := RowKit.Below.refl W.heap.size W
          have KF : ∀ w', RowKit.Below W.heap.size W w' → ∀ i, w'.cell? ⟨w3.heap.size, i, none⟩ = (uf.cells)[i]? := fun w' h => (XF.later h).c
          clear hB4 hB3 XF
          go_region_held3 (fun w' => RowKit.Below W.heap.size W w') (first | with_reducible assumption | exact (by repeat (first | with_reducible assumption | with_reducible exact Below.refl _ _ | with_reducible refine Below.setCell ?_ (by first | exact Nat.le_refl _ | (simp; done) | (simp; omega)) _ | with_reducible refine bal ?_ _ | with_reducible refine Below.alloc ?_ (by first | exact Nat.le_refl _ | (simp; done) | (simp; omega)) _ | with_reducible refine Below.drew ?_))) (first
            | (go_at_call 140; refine (CB.out _).mono ?_; rintro e w4 ⟨rfl, b4⟩; have b4 : RowKit.Below W.heap.size W w4 := (by refine Below.trans ?_ (Below.mono b4 ?_); rotate_left; exact Below.size (by with_reducible assumption); with_reducible assumption))
            | (go_at_call 102; refine (CO.out _ (HB4.out.trans (b4.mono HB4.out.size))).mono ?_; rintro e w5 ⟨v5, rfl, o5, b5⟩; have s4 := b4.size; have b5 : RowKit.Below W.heap.size W w5 := (by refine Below.trans ?_ (Below.mono b5 ?_); rotate_left; exact Below.size (by with_reducible assumption); with_reducible assumption)))
          clear KF CB CO
          go_wp2_with fail
          exact bodyPost_ret (v := .tuple #[v5, .bool true]) (by simp [results, Tryz.results119, go_sem]) rfl ⟨by rw [HW2.out]; exact ⟨v5, rfl, o5.base (by have := HB4.out.size; omega)⟩, HB4.out.trans (b5.mono HB4.out.size)⟩
        · have HW2 : Hid (Sp.wildM s.data.toList = none) := HW.out.trans (if_neg hpre)
          obtain ⟨xa, xb, xc, xp⟩ := u
          have hemp : xp.toList.isEmpty = false := by
            have : ¬ xp.data.toList = [] := hpre
            rw [toList_data]; simpa using this
          clear hpre
          go_wp2_with fail
          exact bodyPost_ret (v := .tuple #[.slice none 0 0, .bool false]) (by simp [results, Tryz.results119, go_sem]) rfl ⟨by rw [HW2.out]; rfl, (by repeat (first | with_reducible assumption | with_reducible exact Below.refl _ _ | with_reducible refine Below.setCell ?_ (by first | exact Nat.le_refl _ | (simp; done) | (simp; omega)) _ | with_reducible refine bal ?_ _ | with_reducible refine Below.alloc ?_ (by first | exact Nat.le_refl _ | (simp; done) | (simp; omega)) _ | with_reducible refine Below.drew ?_))⟩
    | some v =>
      simp only [pret, Option.getD_some, Option.isSome_some]
      by_cases hpre : v.p.data.toList = []
      · have HW2 : Hid (Sp.wildM s.data.toList = some (Sp.only Sp.cmpC (Sp.firstC v.a v.b 0) (Sp.bumpB ⟨v.a, v.b, 0, ⟨#[48]⟩⟩))) := HW.out.trans (if_pos hpre)
        have ho := hq1 rfl
        have hp := Sp.parts_ok ho
        have okF : Sp.okC (Sp.firstC v.a v.b 0) := Sp.ok_first hp.1 hp.2.1 (by omega)
        have okv : (V.mk v.a v.b 0 ⟨#[48]⟩).ok = true := okF _ rfl
        have CF : Hid (∀ W, Calls Tryz.prog 52 #[.int .i64 v.a, .int .i64 v.b, .int .i64 0] W fun e w' => e = .returned (pl (Sp.firstC v.a v.b 0)).val ∧ RowKit.Below W.heap.size W w') := fun W => first_raw _ _ _ W
        have CB : Hid (∀ W, Calls Tryz.prog 139 #[(pl (Sp.firstC v.a v.b 0)).val] W fun e w' => e = .returned (pl (Sp.bumpB ⟨v.a, v.b, 0, ⟨#[48]⟩⟩)).val ∧ RowKit.Below W.heap.size W w') := fun W => bumpB_any ⟨v.a, v.b, 0, ⟨#[48]⟩⟩ false W okv
        have CO : Hid (∀ W, RowKit.Below w1.heap.size w1 W → Calls Tryz.prog 102 #[(pl (Sp.firstC v.a v.b 0)).val, (pl (Sp.bumpB ⟨v.a, v.b, 0, ⟨#[48]⟩⟩)).val] W fun e w' => ∃ v', e = .returned v' ∧ EOwn ES w' W.heap.size v' (Sp.only Sp.cmpC (Sp.firstC v.a v.b 0) (Sp.bumpB ⟨v.a, v.b, 0, ⟨#[48]⟩⟩)) ∧ RowKit.Below W.heap.size W w') := fun W hW => by rw [← pl_val, ← pl_val]; exact only_any _ _ okF (Sp.ok_bumpB okv) W (HE.out.later hW)
        generalize Sp.only Sp.cmpC (Sp.firstC v.a v.b 0) (Sp.bumpB ⟨v.a, v.b, 0, ⟨#[48]⟩⟩) = lo1 at *
        generalize pl (Sp.bumpB ⟨v.a, v.b, 0, ⟨#[48]⟩⟩) = ub at *
        generalize pl (Sp.firstC v.a v.b 0) = uf at *
        clear okF okv ho hp
        obtain ⟨xa, xb, xc, xp⟩ := v
        have hemp : xp.toList.isEmpty = true := by
          have : xp.data.toList = [] := hpre
          rw [toList_data, this]; rfl
        clear hpre
        go_wp2_with fail
        refine (CF.out _).mono ?_
        rintro e w3 ⟨rfl, b3⟩
        have hB3 : RowKit.Below w1.heap.size w1 w3 := hBw.trans (RowKit.Below.trans (show RowKit.Below wv.heap.size wv _ from (by repeat (first | with_reducible assumption | with_reducible exact Below.refl _ _ | with_reducible refine Below.setCell ?_ (by first | exact Nat.le_refl _ | (simp; done) | (simp; omega)) _ | with_reducible refine bal ?_ _ | with_reducible refine Below.alloc ?_ (by first | exact Nat.le_refl _ | (simp; done) | (simp; omega)) _ | with_reducible refine Below.drew ?_))) (b3.mono (by simp)) |>.mono hBw.size)
        clear b3 CF
        go_wp2_with fail
        have XF := Box.new w3 uf.cells 63
        have hB4 := bal hB3 (.cells uf.cells 63)
        generalize w3.alloc (.cells uf.cells 63) = W at *
        have HB4 := hide hB4
        have hBW := RowKit.Below.refl W.heap.size W
        have KF : ∀ w', RowKit.Below W.heap.size W w' → ∀ i, w'.cell? ⟨w3.heap.size, i, none⟩ = (uf.cells)[i]? := fun w' h => (XF.later h).c
        clear hB4 hB3 XF
        go_region_held3 (fun w' => RowKit.Below W.heap.size W w') (first | with_reducible assumption | exact (by repeat (first | with_reducible assumption | with_reducible exact Below.refl _ _ | with_reducible refine Below.setCell ?_ (by first | exact Nat.le_refl _ | (simp; done) | (simp; omega)) _ | with_reducible refine bal ?_ _ | with_reducible refine Below.alloc ?_ (by first | exact Nat.le_refl _ | (simp; done) | (simp; omega)) _ | with_reducible refine Below.drew ?_))) (first
          | (go_at_call 139; refine (CB.out _).mono ?_; rintro e w4 ⟨rfl, b4⟩; have b4 : RowKit.Below W.heap.size W w4 := (by refine Below.trans ?_ (Below.mono b4 ?_); rotate_left; exact Below.size (by with_reducible assumption); with_reducible assumption))
          | (go_at_call 102; refine (CO.out _ (HB4.out.trans (b4.mono HB4.out.size))).mono ?_; rintro e w5 ⟨v5, rfl, o5, b5⟩; have s4 := b4.size; have b5 : RowKit.Below W.heap.size W w5 := (by refine Below.trans ?_ (Below.mono b5 ?_); rotate_left; exact Below.size (by with_reducible assumption); with_reducible assumption)))
        clear KF CB CO
        go_wp2_with fail
        exact bodyPost_ret (v := .tuple #[v5, .bool true]) (by simp [results, Tryz.results119, go_sem]) rfl ⟨by rw [HW2.out]; exact ⟨v5, rfl, o5.base (by have := HB4.out.size; omega)⟩, HB4.out.trans (b5.mono HB4.out.size)⟩
      · have HW3 : Hid (Sp.wildM s.data.toList = Sp.wild1 o2) := HW.out.trans (if_neg hpre)
        clear HW
        have HW := HW3
        clear HW3
        obtain ⟨ya, yb, yc, yp⟩ := v
        have hemp1 : yp.toList.isEmpty = false := by
          have : ¬ yp.data.toList = [] := hpre
          rw [toList_data]; simpa using this
        clear hpre hq1
        go_wp2_with fail
        have hBv : RowKit.Below w1.heap.size w1 (wv.alloc (.cells #[.int .i64 ya, .int .i64 yb, .int .i64 yc, .string yp] 37)) := bal hBw _
        refine (CP2.out _ hBv).mono ?_
        rintro e w2 ⟨rfl, b2⟩
        have hBw := RowKit.Below.trans hBv (b2.mono hBv.size)
        clear b2 CP2
        generalize w2 = wv at *
        cases o2 with
        | none =>
          have HW2 : Hid (Sp.wildM s.data.toList = none) := HW
          simp only [pret, Option.getD_none, Option.isSome_none]
          go_wp2_with fail
          exact bodyPost_ret (v := .tuple #[.slice none 0 0, .bool false]) (by simp [results, Tryz.results119, go_sem]) rfl ⟨by rw [HW2.out]; rfl, (by repeat (first | with_reducible assumption | with_reducible exact Below.refl _ _ | with_reducible refine Below.setCell ?_ (by first | exact Nat.le_refl _ | (simp; done) | (simp; omega)) _ | with_reducible refine bal ?_ _ | with_reducible refine Below.alloc ?_ (by first | exact Nat.le_refl _ | (simp; done) | (simp; omega)) _ | with_reducible refine Below.drew ?_))⟩
        | some u =>
          simp only [pret, Option.getD_some, Option.isSome_some]
          by_cases hpre : u.p.data.toList = []
          · have HW2 : Hid (Sp.wildM s.data.toList = some (Sp.only Sp.cmpC (Sp.firstC u.a 0 0) (Sp.bumpA ⟨u.a, 0, 0, ⟨#[48]⟩⟩))) := HW.out.trans (if_pos hpre)
            have ho := hq2 rfl
            have hp := Sp.parts_ok ho
            have okF : Sp.okC (Sp.firstC u.a 0 0) := Sp.ok_first hp.1 (by omega) (by omega)
            have okv : (V.mk u.a 0 0 ⟨#[48]⟩).ok = true := okF _ rfl
            have CF : Hid (∀ W, Calls Tryz.prog 52 #[.int .i64 u.a, .int .i64 0, .int .i64 0] W fun e w' => e = .returned (pl (Sp.firstC u.a 0 0)).val ∧ RowKit.Below W.heap.size W w') := fun W => first_raw _ _ _ W
            have CB : Hid (∀ W, Calls Tryz.prog 140 #[(pl (Sp.firstC u.a 0 0)).val] W fun e w' => e = .returned (pl (Sp.bumpA ⟨u.a, 0, 0, ⟨#[48]⟩⟩)).val ∧ RowKit.Below W.heap.size W w') := fun W => bumpA_any ⟨u.a, 0, 0, ⟨#[48]⟩⟩ false W okv
            have CO : Hid (∀ W, RowKit.Below w1.heap.size w1 W → Calls Tryz.prog 102 #[(pl (Sp.firstC u.a 0 0)).val, (pl (Sp.bumpA ⟨u.a, 0, 0, ⟨#[48]⟩⟩)).val] W fun e w' => ∃ v', e = .returned v' ∧ EOwn ES w' W.heap.size v' (Sp.only Sp.cmpC (Sp.firstC u.a 0 0) (Sp.bumpA ⟨u.a, 0, 0, ⟨#[48]⟩⟩)) ∧ RowKit.Below W.heap.size W w') := fun W hW => by rw [← pl_val, ← pl_val]; exact only_any _ _ okF (Sp.ok_bumpA okv) W (HE.out.later hW)
            generalize Sp.only Sp.cmpC (Sp.firstC u.a 0 0) (Sp.bumpA ⟨u.a, 0, 0, ⟨#[48]⟩⟩) = lo1 at *
            generalize pl (Sp.bumpA ⟨u.a, 0, 0, ⟨#[48]⟩⟩) = ub at *
            generalize pl (Sp.firstC u.a 0 0) = uf at *
            clear okF okv ho hp
            obtain ⟨xa, xb, xc, xp⟩ := u
            have hemp : xp.toList.isEmpty = true := by
              have : xp.data.toList = [] := hpre
              rw [toList_data, this]; rfl
            clear hpre
            go_wp2_with fail
            refine (CF.out _).mono ?_
            rintro e w3 ⟨rfl, b3⟩
            have hB3 : RowKit.Below w1.heap.size w1 w3 := hBw.trans (RowKit.Below.trans (show RowKit.Below wv.heap.size wv _ from (by repeat (first | with_reducible assumption | with_reducible exact Below.refl _ _ | with_reducible refine Below.setCell ?_ (by first | exact Nat.le_refl _ | (simp; done) | (simp; omega)) _ | with_reducible refine bal ?_ _ | with_reducible refine Below.alloc ?_ (by first | exact Nat.le_refl _ | (simp; done) | (simp; omega)) _ | with_reducible refine Below.drew ?_))) (b3.mono (by simp)) |>.mono hBw.size)
            clear b3 CF
            go_wp2_with fail
            have XF := Box.new w3 uf.cells 63
            have hB4 := bal hB3 (.cells uf.cells 63)
            generalize w3.alloc (.cells uf.cells 63) = W at *
            have HB4 := hide hB4
            have hBW := RowKit.Below.refl W.heap.size W
            have KF : ∀ w', RowKit.Below W.heap.size W w' → ∀ i, w'.cell? ⟨w3.heap.size, i, none⟩ = (uf.cells)[i]? := fun w' h => (XF.later h).c
            clear hB4 hB3 XF
            go_region_held3 (fun w' => RowKit.Below W.heap.size W w') (first | with_reducible assumption | exact (by repeat (first | with_reducible assumption | with_reducible exact Below.refl _ _ | with_reducible refine Below.setCell ?_ (by first | exact Nat.le_refl _ | (simp; done) | (simp; omega)) _ | with_reducible refine bal ?_ _ | with_reducible refine Below.alloc ?_ (by first | exact Nat.le_refl _ | (simp; done) | (simp; omega)) _ | with_reducible refine Below.drew ?_))) (first
              | (go_at_call 140; refine (CB.out _).mono ?_; rintro e w4 ⟨rfl, b4⟩; have b4 : RowKit.Below W.heap.size W w4 := (by refine Below.trans ?_ (Below.mono b4 ?_); rotate_left; exact Below.size (by with_reducible assumption); with_reducible assumption))
              | (go_at_call 102; refine (CO.out _ (HB4.out.trans (b4.mono HB4.out.size))).mono ?_; rintro e w5 ⟨v5, rfl, o5, b5⟩; have s4 := b4.size; have b5 : RowKit.Below W.heap.size W w5 := (by refine Below.trans ?_ (Below.mono b5 ?_); rotate_left; exact Below.size (by with_reducible assumption); with_reducible assumption)))
            clear KF CB CO
            go_wp2_with fail
            exact bodyPost_ret (v := .tuple #[v5, .bool true]) (by simp [results, Tryz.results119, go_sem]) rfl ⟨by rw [HW2.out]; exact ⟨v5, rfl, o5.base (by have := HB4.out.size; omega)⟩, HB4.out.trans (b5.mono HB4.out.size)⟩
          · have HW2 : Hid (Sp.wildM s.data.toList = none) := HW.out.trans (if_neg hpre)
            obtain ⟨xa, xb, xc, xp⟩ := u
            have hemp : xp.toList.isEmpty = false := by
              have : ¬ xp.data.toList = [] := hpre
              rw [toList_data]; simpa using this
            clear hpre
            go_wp2_with fail
            exact bodyPost_ret (v := .tuple #[.slice none 0 0, .bool false]) (by simp [results, Tryz.results119, go_sem]) rfl ⟨by rw [HW2.out]; rfl, (by repeat (first | with_reducible assumption | with_reducible exact Below.refl _ _ | with_reducible refine Below.setCell ?_ (by first | exact Nat.le_refl _ | (simp; done) | (simp; omega)) _ | with_reducible refine bal ?_ _ | with_reducible refine Below.alloc ?_ (by first | exact Nat.le_refl _ | (simp; done) | (simp; omega)) _ | with_reducible refine Below.drew ?_))⟩
  · have h1 : hasSuffix s.data.toList [46, 120] = false := by rw [suffix_is]; simpa using hd
    have HW : Hid (Sp.wildM s.data.toList = none) := by show _ = _; unfold Sp.wildM; rw [if_neg hd]
    rw [h1] at CC
    generalize str (trimSuffix s.data.toList [46, 120]) = x at *
    go_enter Tryz.func119, Tryz.ntmps119
    go_wp2_with fail
    refine CC.out.mono ?_
    rintro e w1 ⟨rfl, rfl⟩
    go_wp2_with fail
    exact bodyPost_ret (v := .tuple #[.slice none 0 0, .bool false]) (by simp [results, Tryz.results119, go_sem]) rfl ⟨by rw [HW.out]; rfl, RowKit.Below.refl _ _⟩

theorem wildM_ok {s : Bs} {l : List Sp.S} (h : Sp.wildM s = some l) : Sp.okL l ∧ Sp.Normed l := by
  have k1 : ∀ o, (∀ u, o = some u → u.ok = true) → ∀ l, Sp.wild1 o = some l → Sp.okL l ∧ Sp.Normed l := by
    intro o ho l h
    cases o with
    | none => exact nomatch h
    | some u =>
      unfold Sp.wild1 at h
      simp only at h
      split at h
      · cases h
        have hp := Sp.parts_ok (ho u rfl)
        have okF : Sp.okC (Sp.firstC u.a 0 0) := Sp.ok_first hp.1 (by omega) (by omega)
        exact ⟨Sp.ok_only okF (Sp.ok_bumpA (okF _ rfl)), Sp.nm_only _ _⟩
      · exact nomatch h
  unfold Sp.wildM at h
  split at h
  · unfold Sp.wild2 at h
    split at h
    · rename_i v hv
      split at h
      · cases h
        have hp := Sp.parts_ok (parse_ok' hv)
        have okF : Sp.okC (Sp.firstC v.a v.b 0) := Sp.ok_first hp.1 hp.2.1 (by omega)
        exact ⟨Sp.ok_only okF (Sp.ok_bumpB (okF _ rfl)), Sp.nm_only _ _⟩
      · exact k1 _ (fun u hu => parse_ok' hu) l h
    · exact k1 _ (fun u hu => parse_ok' hu) l h
  · exact nomatch h
theorem notL_nil : Sp.okL (Sp.notL []) ∧ Sp.Normed (Sp.notL []) := ⟨Sp.ok_not (fun _ h => nomatch h), Sp.not_nm trivial⟩
theorem meantM_ok {s : Bs} {l : List Sp.S} (h : Sp.meantM s = some l) : Sp.okL l ∧ Sp.Normed l := by
  unfold Sp.meantM at h
  split at h
  · cases h; exact notL_nil
  · split at h
    · rename_i hw
      cases h
      exact wildM_ok hw
    · cases hv : parse (s.drop (Sp.vAt s)) with
      | none => rw [hv] at h; exact nomatch h
      | some v => rw [hv] at h; exact Sp.ok_signed (parse_ok' hv) h
end Go.Proofs.YtninheehoabbbaaGreatDoor
