/-
  Contracts of the reference's Major, Fits.
-/
import Derived.Test.YtcoakjgeadkfoaaDoorH2
import Derived.Test.YtcoakjgeadkfoaaDoorY0
namespace Go.Proofs.YtcoakjgeadkfoaaDoor
set_option linter.unusedSimpArgs false
set_option linter.unusedVariables false
open Go.RowKit Go.Vr Go.Sort Go.Tx Go.Pa
attribute [local go_sem] setCellDrewN allocDrewN

/-- What Major answers. -/
def mval (s : Bs) : Value := .tuple #[.string (str (maj s).1), .int .i64 (maj s).2]
theorem maj_none {s : Bs} (h : lastS s = none) : maj s = (s, 0) := by unfold maj; rw [h]
theorem maj_word {s x w : Bs} (h : lastS s = some (x, w)) (hw : majW w = none) : maj s = (s, 0) := by unfold maj; rw [h]; simp only; rw [hw]
theorem maj_num {s x w : Bs} {n : Int} (h : lastS s = some (x, w)) (hw : majW w = some n) : maj s = (x, n) := by unfold maj; rw [h]; simp only; rw [hw]
theorem majW_c {c : UInt8} {d : Bs} (h : c ≠ 118) : majW (c :: d) = none := if_neg (fun e => h e.1)
theorem majW_v (d : Bs) : majW (118 :: d) = if okNum d = true ∧ 2 ≤ numR d ∧ numR d ≤ 999999 then some (numR d) else none := by
  show (if (118 : UInt8) = 118 ∧ okNum d = true ∧ 2 ≤ numVal d ∧ numVal d ≤ 999999 then some (numVal d) else none) = _
  unfold numR
  by_cases h : okNum d = true
  · simp [h]
  · simp [h]
theorem ret_maj {s : ByteArray} {x : ByteArray} {n : Int} (h : maj s.data.toList = (x.data.toList, n)) : Ending.returned (.tuple #[.string x, .int .i64 n]) = .returned (mval s.data.toList) := by
  unfold mval; rw [h]; simp only [str_of]
theorem str_eq (s : ByteArray) (l : Bs) (h : s.data.toList = l) : s = str l := by rw [← h, str_of]

set_option maxHeartbeats 2000000 in
set_option maxRecDepth 100000 in
theorem prmajor_any (s : ByteArray) (w : World) (hs : s.size ≤ 5000) :
    Calls Tryd.prog 10 #[.string s] w fun e w' => e = .returned (mval s.data.toList) ∧ Below w.heap.size w w' := by
  have CW := hide (fun W => pwords_any s W hs)
  cases hL : lastS s.data.toList with
  | none =>
    have HM := hide (maj_none hL)
    have e1 := sw_one _ (lastS_none hL)
    rw [e1] at CW
    clear hL e1
    go_enter Tryd.func10, Tryd.ntmps10
    go_wp2_with fail
    refine (CW.out _).mono ?_
    rintro e w1 ⟨v, rfl, hown, hB⟩
    obtain ⟨g, cap, hv, hg, hnc, hcm, hcell⟩ := own_at hown (by simp)
    simp only [List.length_cons, List.length_nil, Nat.zero_add] at hv hnc hcell
    subst hv
    have hc := hcell 0 (by omega)
    simp only [List.getD_cons_zero, str_of] at hc
    clear hcell hown CW hg hcm
    go_wp2_with fail
    go_ret2
    exact ⟨ret_maj HM.out, hB⟩
  | some p =>
    obtain ⟨x, u⟩ := p
    obtain ⟨hsx, hu⟩ := lastS_some hL
    have e1 : sw s.data.toList = sw x ++ [u] := by rw [hsx, sw_app, sw_one u hu]
    have hn := sw_ne x
    obtain ⟨m, hm⟩ : ∃ m, (sw x).length = m + 1 := by
      cases e : sw x with
      | nil => exact absurd e hn
      | cons a b => exact ⟨b.length, rfl⟩
    have hlen : (sw x ++ [u]).length = m + 2 := by rw [List.length_append, hm]; rfl
    have hget : (sw x ++ [u]).getD (m + 1) [] = u := by
      rw [← hm, List.getD_eq_getElem?_getD]; simp
    have hsz : s.size = x.length + 1 + u.length := by
      have := congrArg List.length hsx
      rw [len_eq, List.length_append, List.length_cons] at this
      omega
    have hwn := sw_count s.data.toList
    rw [len_eq, e1, hlen] at hwn
    rw [e1, hlen] at CW
    have HX : Hid ((s.extract 0 x.length).data.toList = x) := by
      show _ = _
      rw [Lib.extract_data, hsx]; simp
    have hL2 := hide hL
    clear hL hsx hu e1 hn hm hlen
    go_enter Tryd.func10, Tryd.ntmps10
    go_wp2_with fail
    refine (CW.out _).mono ?_
    rintro e w1 ⟨v, rfl, hown, hB⟩
    obtain ⟨g, cap, rfl, hg, hnc, hcm, hcell⟩ := own_at hown (by omega)
    have hc := hcell (m + 1) (by omega)
    rw [hget] at hc
    clear hcell hown CW hg hget
    unfold maxLen at hcm
    have k1 : IntKind.i64.wrap ((m : Int) + 2 - 1) = (m : Int) + 1 := by rw [IntKind.wrap_i64]; omega
    have k2 : (0 : Int) ≤ (m : Int) + 1 := by omega
    have k3 : (m : Int) + 1 < (m : Int) + 2 := by omega
    have k4 : decide ((m : Int) + 2 < 2) = false := by simp; omega
    cases u with
    | nil =>
      have HM := hide (maj_word hL2.out rfl)
      have e0 : (str []).toList.isEmpty = true := by rw [toList_data]; rfl
      generalize str [] = wb at *
      go_wp2_with fail
      go_ret2
      exact ⟨ret_maj HM.out, hB⟩
    | cons c d =>
      have e0 : (str (c :: d)).toList.isEmpty = false := by rw [toList_data]; rfl
      have e1 : (str (c :: d)).size = d.length + 1 := by rw [str_size]; rfl
      have e20 : ∀ h : 0 < (str (c :: d)).size, (str (c :: d))[0] = c := fun _ => rfl
      have e3 : ((str (c :: d)).extract 1 (str (c :: d)).size).data.toList = d := by
        rw [Lib.extract_data, e1]; simp [str]
      generalize str (c :: d) = wb at *
      have hwp : 0 < wb.size := by omega
      have e2 := e20 hwp
      clear e20
      rw [List.length_cons] at hsz
      have hwm : wb.size ≤ 5000 := by omega
      have k5 : IntKind.i64.wrap ((s.size : Int) - (wb.size : Int)) = (s.size : Int) - (wb.size : Int) := by rw [IntKind.wrap_i64]; omega
      have k6 : IntKind.i64.wrap ((s.size : Int) - (wb.size : Int) - 1) = (x.length : Int) := by rw [IntKind.wrap_i64]; omega
      have k8 : (x.length : Int) ≤ (s.size : Int) := by omega
      clear hsz e1
      by_cases hv : c = 118
      · subst hv
        have hv0 : ((wb[0]).toNat : Int) = 118 := by rw [e2]; rfl
        have HV := hide (majW_v d)
        have CN := hide (fun W => rnumber_any (wb.extract 1 wb.size) W (by unfold maxLen; rw [ByteArray.size_extract]; omega))
        rw [e3] at CN
        have q1 : (1 : Int) ≤ (wb.size : Int) := by omega
        clear e3 e2
        generalize numR d = N at *
        cases ho : okNum d with
        | false =>
          have HM := hide (maj_word hL2.out (by rw [HV.out, ho]; rfl))
          rw [ho] at CN
          clear HV ho
          go_wp2_with fail
          refine (CN.out _).mono ?_
          rintro e w2 ⟨rfl, rfl⟩
          go_wp2_with fail
          go_ret2
          exact ⟨ret_maj HM.out, hB⟩
        | true =>
          rw [ho] at CN
          by_cases h2 : N < 2
          · have HM := hide (maj_word hL2.out (by rw [HV.out]; exact if_neg (fun h => by omega)))
            have d2 : decide (N < 2) = true := by simpa using h2
            clear HV ho
            go_wp2_with fail
            refine (CN.out _).mono ?_
            rintro e w2 ⟨rfl, rfl⟩
            go_wp2_with fail
            go_ret2
            exact ⟨ret_maj HM.out, hB⟩
          · have d2 : decide (N < 2) = false := by simpa using h2
            by_cases h9 : 999999 < N
            · have HM := hide (maj_word hL2.out (by rw [HV.out]; exact if_neg (fun h => by omega)))
              have d9 : decide (999999 < N) = true := by simpa using h9
              clear HV ho
              go_wp2_with fail
              refine (CN.out _).mono ?_
              rintro e w2 ⟨rfl, rfl⟩
              go_wp2_with fail
              go_ret2
              exact ⟨ret_maj HM.out, hB⟩
            · have d9 : decide (999999 < N) = false := by simpa using h9
              have HM := hide (maj_num (n := N) hL2.out (by rw [HV.out]; exact if_pos ⟨ho, by omega, by omega⟩))
              rw [← HX.out] at HM
              clear HV ho
              have k7 : (0 : Int) ≤ (x.length : Int) := by omega
              go_wp2_with fail
              refine (CN.out _).mono ?_
              rintro e w2 ⟨rfl, rfl⟩
              go_wp2_with fail
              go_ret2
              exact ⟨ret_maj HM.out, hB⟩
      · have HM := hide (maj_word hL2.out (majW_c hv))
        have hv1 : ¬ ((wb[0]).toNat : Int) = 118 := by
          rw [e2]
          intro h
          exact hv (UInt8.toNat_inj.1 (by show _ = 118; omega))
        have hv2 : (((wb[0]).toNat : Int) != 118) = true := by simpa using hv1
        clear hv e2 e3 hv1
        go_wp2_with fail
        go_ret2
        exact ⟨ret_maj HM.out, hB⟩

end Go.Proofs.YtcoakjgeadkfoaaDoor
