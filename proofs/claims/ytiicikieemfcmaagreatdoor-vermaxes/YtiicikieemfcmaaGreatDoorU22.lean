/-
  Contract of the reference's Pseudo, where time and id may be.
-/
import Derived.Test.YtiicikieemfcmaaGreatDoorU21
namespace Go.Proofs.YtiicikieemfcmaaGreatDoor
set_option linter.unusedSimpArgs false
set_option linter.unusedVariables false
open Go.RowKit Go.Vr Go.Sort Go.Tx Go.Lib
attribute [local go_sem] setCellDrewN allocDrewN

theorem pad_is (t : Int) (j : Nat) (h : (str (List.replicate j 48 ++ itoa t)).size = 14) (hj : j + (itoa t).length ≤ 14) : str (List.replicate j 48 ++ itoa t) = str (pad t) := by
  rw [Tx.str_size] at h
  simp only [List.length_append, List.length_replicate] at h
  unfold pad
  rw [show 14 - (itoa t).length = j by omega]

theorem VarAt.set2 {w : World} {N : Nat} {a b c : Int} {p : ByteArray} (h : VarAt w N ⟨a, b, c, p⟩) (z : Int) : VarAt (w.setCell ⟨N, 2, none⟩ (.int .i64 z)) N ⟨a, b, z, p⟩ := by
  obtain ⟨lt, c0, c1, c2, c3, f0, f1, f2, f3⟩ := h
  exact ⟨by simpa [World.setCell] using lt, by simp [go_sem, c0, c1, c2, c3], by simp [go_sem, c0, c1, c2, c3], by simp [go_sem, c0, c1, c2, c3], by simp [go_sem, c0, c1, c2, c3], by simp [go_sem, f0], by simp [go_sem, f1], by simp [go_sem, f2], by simp [go_sem, f3]⟩

set_option maxHeartbeats 4000000 in
set_option maxRecDepth 100000 in
theorem rpseudo_yes (has : Bool) (v : V) (t : Int) (id : ByteArray) (w : World) (hc : 0 ≤ v.c ∧ v.c ≤ 999999) (hp : v.p.size ≤ 900) (hi : id.size ≤ 1000) (ht : timeOk t = true) (hid : idOk id.data.toList = true) :
    Calls Tryz.prog 30 #[.bool has, val v, .int .i64 t, .string id] w fun e w' => e = .returned (pret (pseudo has v t id.data.toList)) ∧ Below w.heap.size w w' := by
  have HN := hide (pseudo_if has v t id.data.toList ht hid)
  obtain ⟨tl1, tl2, -, -⟩ := time_len t ht
  have htt : 0 ≤ t ∧ t ≤ 99999999999999 := by unfold timeOk at ht; simpa using ht
  have hsz : 12 ≤ id.size := by
    have := hid
    unfold idOk at this
    simp only [Bool.and_eq_true, decide_eq_true_eq] at this
    rw [len_eq] at this
    exact this.1.1
  obtain ⟨a, b, c, p⟩ := v
  have hp : p.size ≤ 900 := hp
  have hc : 0 ≤ c ∧ c ≤ 999999 := hc
  have ba1 : Below w.heap.size w (w.alloc (.cells #[.int .i64 a, .int .i64 b, .int .i64 c, .string p] 24)) := (Below.refl w.heap.size w).alloc (Nat.le_refl _) _
  have hB0 := ba1.alloc ba1.size (.cells #[.int .i64 0, .int .i64 0, .int .i64 0, .string ⟨#[]⟩] 24)
  have V1 := (VarAt.new w ⟨a, b, c, p⟩).later ((Below.refl _ _).alloc (Nat.le_refl _) (.cells #[.int .i64 0, .int .i64 0, .int .i64 0, .string ⟨#[]⟩] 24))
  have V0 : VarAt ((w.alloc (.cells #[.int .i64 a, .int .i64 b, .int .i64 c, .string p] 24)).alloc (.cells #[.int .i64 0, .int .i64 0, .int .i64 0, .string ⟨#[]⟩] 24)) (w.alloc (.cells #[.int .i64 a, .int .i64 b, .int .i64 c, .string p] 24)).heap.size V.zero := VarAt.new _ V.zero
  have hz1 : (w.alloc (.cells #[.int .i64 a, .int .i64 b, .int .i64 c, .string p] 24)).heap.size = w.heap.size + 1 := by simp
  rw [hz1] at V0
  have CI := hide (fun W => rid_any id W (by unfold maxLen; omega))
  rw [hid] at CI
  have CD := hide (fun W => rdigits_any t W htt.1 (by omega))
  have d0 : decide (t < 0) = false := by simp; omega
  have d1 : decide (99999999999999 < t) = false := by simp; omega
  clear hid ht hz1 ba1
  have HB0 := hide hB0
  have HV1 := hide V1
  have HV0 := hide V0
  clear hB0 V1 V0
  go_enter Tryz.func30, Tryz.ntmps30
  go_wp2_with fail
  generalize (w.alloc (.cells #[.int .i64 a, .int .i64 b, .int .i64 c, .string p] 24)).alloc (.cells #[.int .i64 0, .int .i64 0, .int .i64 0, .string ⟨#[]⟩] 24) = w0 at *
  refine (CI.out _).mono ?_
  rintro e w1 ⟨rfl, rfl⟩
  go_wp2_with fail
  refine (CD.out _).mono ?_
  rintro e w2 ⟨rfl, b2⟩
  have hB2 := step HB0.out b2
  have V12 := hide (HV1.out.later b2)
  have V02 := hide (HV0.out.later b2)
  clear HB0 HV1 HV0 b2 CI CD
  have HTT := hide htt
  clear htt
  go_wp2_with fail
  go_loop [10] (fun y => ∃ j : Nat, y = .string (str (List.replicate j 48 ++ itoa t)) ∧ j + (itoa t).length ≤ 14) strSz
  case atStart => exact ⟨0, rfl, by omega⟩
  case round =>
    obtain ⟨j, rfl, hj⟩ := hrel
    have hyz : (str (List.replicate j 48 ++ itoa t)).size = j + (itoa t).length := by rw [Tx.str_size]; simp
    have HPAD := hide (fun h => pad_is t j h hj)
    have HNX : Hid ((⟨#[48]⟩ : ByteArray) ++ str (List.replicate j 48 ++ itoa t) = str (List.replicate (j + 1) 48 ++ itoa t)) := by
      show _ = _
      refine ba_ext ?_
      rw [ba_app, str_list, str_list]; simp [List.replicate_succ]
    generalize str (List.replicate j 48 ++ itoa t) = y at *
    have HYZ := hide hyz
    have ys : y.size ≤ 14 := by omega
    clear hyz
    by_cases hlt : y.size < 14
    · have dl : decide ((y.size : Int) < 14) = true := by simp; omega
      have n1 : ¬ 9223372036854775807 < 1 + y.size := by omega
      go_wp2_with fail
      go_round
      case rel => exact ⟨j + 1, by rw [HNX.out], by have := HYZ.out; omega⟩
      case measure =>
        show 14 - ((⟨#[48]⟩ : ByteArray) ++ y).size < 14 - y.size
        rw [ByteArray.size_append]
        have : (ByteArray.mk #[48]).size = 1 := rfl
        omega
    · have dl : decide ((y.size : Int) < 14) = false := by simp; omega
      have n1 : ¬ 9223372036854775807 < y.size + 1 := by omega
      have n2 : ¬ 9223372036854775807 < y.size + 1 + (id.extract 0 12).size := by rw [ByteArray.size_extract]; omega
      have k12 : (12 : Int) ≤ (id.size : Int) := by omega
      have HS : Hid (y ++ ⟨#[45]⟩ ++ id.extract 0 12 = str (stamp t id.data.toList) ∧ (y ++ ⟨#[45]⟩ ++ id.extract 0 12).size ≤ 27) := by
        show _ ∧ _
        constructor
        · rw [HPAD.out (by omega)]
          refine ba_ext ?_
          unfold stamp
          rw [ba_app, ba_app, str_list, str_list, ext_list]; simp
        · rw [ByteArray.size_append, ByteArray.size_append, ByteArray.size_extract]
          have : (ByteArray.mk #[45]).size = 1 := rfl
          omega
      cases has
      · obtain ⟨lt, c0, c1, c2, c3, f0, f1, f2, f3⟩ := V12.out
        go_wp2_with fail
        obtain ⟨hS1, hS2⟩ := HS.out
        generalize y ++ ⟨#[45]⟩ ++ id.extract 0 12 = S at *
        have HS1 := hide hS1
        clear hS1 HS HPAD HNX
        have PV : Hid (pver false ⟨a, b, c, p⟩ t id.data.toList = ⟨0, 0, 0, S⟩) := by
          show _ = _
          rw [HS1.out]; rfl
        have HW1 : Hid (VarAt ((((w2.setCell ⟨w.heap.size, 0, none⟩ (.int .i64 0)).setCell ⟨w.heap.size, 1, none⟩ (.int .i64 0)).setCell ⟨w.heap.size, 2, none⟩ (.int .i64 0)).setCell ⟨w.heap.size, 3, none⟩ (.string S)) w.heap.size ⟨0, 0, 0, S⟩) := V12.out.put ⟨0, 0, 0, S⟩
        have HW0 : Hid (VarAt ((((w2.setCell ⟨w.heap.size, 0, none⟩ (.int .i64 0)).setCell ⟨w.heap.size, 1, none⟩ (.int .i64 0)).setCell ⟨w.heap.size, 2, none⟩ (.int .i64 0)).setCell ⟨w.heap.size, 3, none⟩ (.string S)) (w.heap.size + 1) V.zero) := V02.out.far ⟨0, 0, 0, S⟩ (by omega)
        have HWB : Hid (Below w.heap.size w ((((w2.setCell ⟨w.heap.size, 0, none⟩ (.int .i64 0)).setCell ⟨w.heap.size, 1, none⟩ (.int .i64 0)).setCell ⟨w.heap.size, 2, none⟩ (.int .i64 0)).setCell ⟨w.heap.size, 3, none⟩ (.string S))) := putV_below hB2 (Nat.le_refl _) ⟨0, 0, 0, S⟩
        clear c0 c1 c2 c3 f0 f1 f2 f3 lt
        generalize (((w2.setCell ⟨w.heap.size, 0, none⟩ (.int .i64 0)).setCell ⟨w.heap.size, 1, none⟩ (.int .i64 0)).setCell ⟨w.heap.size, 2, none⟩ (.int .i64 0)).setCell ⟨w.heap.size, 3, none⟩ (.string S) = W at *
        have CR := hide (fun X => rright_any (0) (0) (0) S X (by unfold maxLen; omega))
        cases hok : verOk (0) (0) (0) (S).data.toList with
        | true =>
          rw [hok] at CR
          have HF : Hid (pseudo false ⟨a, b, c, p⟩ t id.data.toList = some ⟨0, 0, 0, S⟩) := by
            show _ = _
            rw [HN.out, PV.out]; exact if_pos hok
          clear hok HN PV
          refine (CR.out _).mono ?_
          rintro e w4 ⟨rfl, b4⟩
          have hB4 := step HWB.out b4
          obtain ⟨-, c0, c1, c2, c3, -, -, -, -⟩ := HW1.out.later b4
          obtain ⟨-, e0, e1, e2, e3, f0, f1, f2, f3⟩ := HW0.out.later b4
          go_wp2_with fail
          exact bodyPost_ret (v := .tuple #[ver (0) (0) (0) S, .bool true]) (by simp [results, Tryz.results30, go_sem, e0, e1, e2, e3]) rfl ⟨pret_some HF.out, (((hB4.setCell (by simp) _).setCell (by simp) _).setCell (by simp) _).setCell (by simp) _⟩
        | false =>
          rw [hok] at CR
          have HF : Hid (pseudo false ⟨a, b, c, p⟩ t id.data.toList = none) := by
            show _ = _
            rw [HN.out, PV.out]; exact if_neg (by intro k; exact absurd (hok.symm.trans k) (by decide))
          clear hok HN PV
          refine (CR.out _).mono ?_
          rintro e w4 ⟨rfl, b4⟩
          have hB4 := step HWB.out b4
          obtain ⟨-, e0, e1, e2, e3, f0, f1, f2, f3⟩ := HW0.out.later b4
          go_wp2_with fail
          exact bodyPost_ret (v := .tuple #[ver 0 0 0 ⟨#[]⟩, .bool false]) (by simp [results, Tryz.results30, go_sem, e0, e1, e2, e3]) rfl ⟨pret_none HF.out, (((hB4.setCell (by simp) _).setCell (by simp) _).setCell (by simp) _).setCell (by simp) _⟩
      · obtain ⟨lt, c0, c1, c2, c3, f0, f1, f2, f3⟩ := V12.out
        have ez : (id.extract 0 12).size ≤ 12 := by rw [ByteArray.size_extract]; omega
        by_cases hp0 : p.size = 0
        · have he0 : p.toList.isEmpty = true := by rw [empty_eq]; simpa using hp0
          have HP0 : Hid (p.data.toList = []) := List.eq_nil_of_length_eq_zero (by rw [len_eq]; exact hp0)
          have wc1 : IntKind.i64.wrap (c + 1) = c + 1 := by rw [IntKind.wrap_i64]; omega
          have n3 : ¬ 9223372036854775807 < 2 + (y.size + 1 + (id.extract 0 12).size) := by omega
          clear hp0
          go_wp2_with fail
          obtain ⟨hS1, hS2⟩ := HS.out
          generalize y ++ ⟨#[45]⟩ ++ id.extract 0 12 = S at *
          have HS1 := hide hS1
          clear hS1 HS HPAD HNX
          have hQ : (⟨#[48, 46]⟩ : ByteArray) ++ S = str (lead true p.data.toList ++ stamp t id.data.toList) := by
            rw [HS1.out]
            refine ba_ext ?_
            unfold lead
            rw [if_pos rfl, if_pos HP0.out, ba_app, str_list, str_list]
          have hQz : ((⟨#[48, 46]⟩ : ByteArray) ++ S).size ≤ 1000 := by rw [ByteArray.size_append]; have : (ByteArray.mk #[48, 46]).size = 2 := rfl; omega
          generalize (⟨#[48, 46]⟩ : ByteArray) ++ S = Q at *
          have PV : Hid (pver true ⟨a, b, c, p⟩ t id.data.toList = ⟨a, b, c + 1, Q⟩) := by
            show _ = _
            unfold pver
            rw [if_pos rfl, if_pos HP0.out, hQ]
          clear hQ
          have HW1 := hide ((V12.out.set2 (c + 1)).set3 Q)
          have HW0 := hide ((V02.out.far3 (N := w.heap.size) (o := 2) (.int .i64 (c + 1)) (by omega)).far3 (N := w.heap.size) (o := 3) (.string Q) (by omega))
          have HWB := hide ((hB2.setCell (p := ⟨w.heap.size, 2, none⟩) (Nat.le_refl _) (.int .i64 (c + 1))).setCell (p := ⟨w.heap.size, 3, none⟩) (Nat.le_refl _) (.string Q))
          clear c0 c1 c2 c3 f0 f1 f2 f3 lt
          generalize (w2.setCell ⟨w.heap.size, 2, none⟩ (.int .i64 (c + 1))).setCell ⟨w.heap.size, 3, none⟩ (.string Q) = W at *
          have CR := hide (fun X => rright_any (a) (b) (c + 1) Q X (by unfold maxLen; omega))
          cases hok : verOk (a) (b) (c + 1) (Q).data.toList with
          | true =>
            rw [hok] at CR
            have HF : Hid (pseudo true ⟨a, b, c, p⟩ t id.data.toList = some ⟨a, b, c + 1, Q⟩) := by
              show _ = _
              rw [HN.out, PV.out]; exact if_pos hok
            clear hok HN PV
            refine (CR.out _).mono ?_
            rintro e w4 ⟨rfl, b4⟩
            have hB4 := step HWB.out b4
            obtain ⟨-, c0, c1, c2, c3, -, -, -, -⟩ := HW1.out.later b4
            obtain ⟨-, e0, e1, e2, e3, f0, f1, f2, f3⟩ := HW0.out.later b4
            go_wp2_with fail
            exact bodyPost_ret (v := .tuple #[ver (a) (b) (c + 1) Q, .bool true]) (by simp [results, Tryz.results30, go_sem, e0, e1, e2, e3]) rfl ⟨pret_some HF.out, (((hB4.setCell (by simp) _).setCell (by simp) _).setCell (by simp) _).setCell (by simp) _⟩
          | false =>
            rw [hok] at CR
            have HF : Hid (pseudo true ⟨a, b, c, p⟩ t id.data.toList = none) := by
              show _ = _
              rw [HN.out, PV.out]; exact if_neg (by intro k; exact absurd (hok.symm.trans k) (by decide))
            clear hok HN PV
            refine (CR.out _).mono ?_
            rintro e w4 ⟨rfl, b4⟩
            have hB4 := step HWB.out b4
            obtain ⟨-, e0, e1, e2, e3, f0, f1, f2, f3⟩ := HW0.out.later b4
            go_wp2_with fail
            exact bodyPost_ret (v := .tuple #[ver 0 0 0 ⟨#[]⟩, .bool false]) (by simp [results, Tryz.results30, go_sem, e0, e1, e2, e3]) rfl ⟨pret_none HF.out, (((hB4.setCell (by simp) _).setCell (by simp) _).setCell (by simp) _).setCell (by simp) _⟩
        · have he0 : p.toList.isEmpty = false := by rw [empty_eq]; simpa using hp0
          have HP0 : Hid (¬ p.data.toList = []) := fun e => hp0 (by have := len_eq p; rw [e] at this; simpa using this.symm)
          have n4 : ¬ 9223372036854775807 < p.size + 3 := by omega
          have n5 : ¬ 9223372036854775807 < p.size + 3 + (y.size + 1 + (id.extract 0 12).size) := by omega
          clear hp0
          go_wp2_with fail
          obtain ⟨hS1, hS2⟩ := HS.out
          generalize y ++ ⟨#[45]⟩ ++ id.extract 0 12 = S at *
          have HS1 := hide hS1
          clear hS1 HS HPAD HNX
          have hQ : p ++ ⟨#[46, 48, 46]⟩ ++ S = str (lead true p.data.toList ++ stamp t id.data.toList) := by
            rw [HS1.out]
            refine ba_ext ?_
            unfold lead
            rw [if_pos rfl, if_neg HP0.out, ba_app, ba_app, str_list, str_list]
          have hQz : (p ++ ⟨#[46, 48, 46]⟩ ++ S).size ≤ 1000 := by rw [ByteArray.size_append, ByteArray.size_append]; have : (ByteArray.mk #[46, 48, 46]).size = 3 := rfl; omega
          generalize p ++ ⟨#[46, 48, 46]⟩ ++ S = Q at *
          have PV : Hid (pver true ⟨a, b, c, p⟩ t id.data.toList = ⟨a, b, c, Q⟩) := by
            show _ = _
            unfold pver
            rw [if_pos rfl, if_neg HP0.out, hQ]
          clear hQ
          have HW1 := hide (V12.out.set3 Q)
          have HW0 := hide (V02.out.far3 (N := w.heap.size) (o := 3) (.string Q) (by omega))
          have HWB := hide (hB2.setCell (p := ⟨w.heap.size, 3, none⟩) (Nat.le_refl _) (.string Q))
          clear c0 c1 c2 c3 f0 f1 f2 f3 lt
          generalize w2.setCell ⟨w.heap.size, 3, none⟩ (.string Q) = W at *
          have CR := hide (fun X => rright_any (a) (b) (c) Q X (by unfold maxLen; omega))
          cases hok : verOk (a) (b) (c) (Q).data.toList with
          | true =>
            rw [hok] at CR
            have HF : Hid (pseudo true ⟨a, b, c, p⟩ t id.data.toList = some ⟨a, b, c, Q⟩) := by
              show _ = _
              rw [HN.out, PV.out]; exact if_pos hok
            clear hok HN PV
            refine (CR.out _).mono ?_
            rintro e w4 ⟨rfl, b4⟩
            have hB4 := step HWB.out b4
            obtain ⟨-, c0, c1, c2, c3, -, -, -, -⟩ := HW1.out.later b4
            obtain ⟨-, e0, e1, e2, e3, f0, f1, f2, f3⟩ := HW0.out.later b4
            go_wp2_with fail
            exact bodyPost_ret (v := .tuple #[ver (a) (b) (c) Q, .bool true]) (by simp [results, Tryz.results30, go_sem, e0, e1, e2, e3]) rfl ⟨pret_some HF.out, (((hB4.setCell (by simp) _).setCell (by simp) _).setCell (by simp) _).setCell (by simp) _⟩
          | false =>
            rw [hok] at CR
            have HF : Hid (pseudo true ⟨a, b, c, p⟩ t id.data.toList = none) := by
              show _ = _
              rw [HN.out, PV.out]; exact if_neg (by intro k; exact absurd (hok.symm.trans k) (by decide))
            clear hok HN PV
            refine (CR.out _).mono ?_
            rintro e w4 ⟨rfl, b4⟩
            have hB4 := step HWB.out b4
            obtain ⟨-, e0, e1, e2, e3, f0, f1, f2, f3⟩ := HW0.out.later b4
            go_wp2_with fail
            exact bodyPost_ret (v := .tuple #[ver 0 0 0 ⟨#[]⟩, .bool false]) (by simp [results, Tryz.results30, go_sem, e0, e1, e2, e3]) rfl ⟨pret_none HF.out, (((hB4.setCell (by simp) _).setCell (by simp) _).setCell (by simp) _).setCell (by simp) _⟩

theorem rpseudo_any (has : Bool) (v : V) (t : Int) (id : ByteArray) (w : World) (hc : 0 ≤ v.c ∧ v.c ≤ 999999) (hp : v.p.size ≤ 900) (hi : id.size ≤ 1000) :
    Calls Tryz.prog 30 #[.bool has, val v, .int .i64 t, .string id] w fun e w' => e = .returned (pret (pseudo has v t id.data.toList)) ∧ Below w.heap.size w w' := by
  by_cases h : timeOk t = true ∧ idOk id.data.toList = true
  · exact rpseudo_yes has v t id w hc hp hi h.1 h.2
  · exact rpseudo_no has v t id w hi h

end Go.Proofs.YtiicikieemfcmaaGreatDoor
