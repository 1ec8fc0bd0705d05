/-
  The walk of VerParts.
-/
import Derived.Test.YtiicikieemfcmaaGreatDoorU18
namespace Go.Proofs.YtiicikieemfcmaaGreatDoor.verParts
set_option linter.unusedSimpArgs false
set_option linter.unusedVariables false
open Go.RowKit Go.Vr Go.Sort Go.Tx Go.Lib
attribute [local go_sem] setCellDrewN allocDrewN

/-- The a's. -/
abbrev A50 : ByteArray := ⟨#[97, 97, 97, 97, 97, 97, 97, 97, 97, 97, 97, 97, 97, 97, 97, 97, 97, 97, 97, 97, 97, 97, 97, 97, 97, 97, 97, 97, 97, 97, 97, 97, 97, 97, 97, 97, 97, 97, 97, 97, 97, 97, 97, 97, 97, 97, 97, 97, 97, 97]⟩
theorem pre_fact : ∀ i, i < 10 → parse ((ByteArray.mk #[118, 49, 46, 48, 46, 48, 45]) ++ A50.extract 0 (35 + i)).data.toList = (if 35 + i ≤ 40 then some ⟨1, 0, 0, A50.extract 0 (35 + i)⟩ else none) ∧ (V.mk 1 0 0 (A50.extract 0 (35 + i))).ok = decide (35 + i ≤ 40) := by
  have h : ((List.range 10).all fun i => decide (parse ((ByteArray.mk #[118, 49, 46, 48, 46, 48, 45]) ++ A50.extract 0 (35 + i)).data.toList = (if 35 + i ≤ 40 then some ⟨1, 0, 0, A50.extract 0 (35 + i)⟩ else none)) && decide ((V.mk 1 0 0 (A50.extract 0 (35 + i))).ok = decide (35 + i ≤ 40))) = true := by decide +kernel
  intro i hi
  have := List.all_eq_true.1 h i (List.mem_range.2 hi)
  rw [Bool.and_eq_true] at this
  exact ⟨of_decide_eq_true this.1, of_decide_eq_true this.2⟩
theorem ok_num (k : Int) (hk : 0 ≤ k) : ((V.mk k 0 0 ⟨#[]⟩).ok = decide (k ≤ 999999)) ∧ ((V.mk 0 k 0 ⟨#[]⟩).ok = decide (k ≤ 999999)) ∧ ((V.mk 0 0 k ⟨#[]⟩).ok = decide (k ≤ 999999)) := by
  have e : preOk (ByteArray.mk #[]).data.toList = true := by decide +kernel
  have e0 : partOk 0 = true := by decide
  have e1 : partOk k = decide (k ≤ 999999) := by unfold partOk; simp [hk]
  simp only [V.ok, verOk, e, e0, e1, Bool.and_true, Bool.true_and, and_self]
theorem itoa0 : itoa 0 = [48] := by decide +kernel
theorem num_fact (k : Int) (h0 : 0 ≤ k) (h : k < 1000000000) (s0 s1 s2 : ByteArray) (e0 : s0 = (⟨#[118]⟩ : ByteArray) ++ str (itoa k) ++ ⟨#[46, 48, 46, 48]⟩) (e1 : s1 = (⟨#[118, 48, 46]⟩ : ByteArray) ++ str (itoa k) ++ ⟨#[46, 48]⟩) (e2 : s2 = (⟨#[118, 48, 46, 48, 46]⟩ : ByteArray) ++ str (itoa k)) :
    ∀ j, j < 3 → (parse ([s0, s1, s2].getD j ⟨#[]⟩).data.toList).isSome = decide (k ≤ 999999) ∧ ([s0, s1, s2].getD j ⟨#[]⟩).size ≤ 1000 := by
  obtain ⟨o0, o1, o2⟩ := ok_num k h0
  have z := itoa_size k h0 h
  have t0 : s0.data.toList = txt ⟨k, 0, 0, ⟨#[]⟩⟩ := by rw [e0]; simp [ba_app, str_list, txt, tail, itoa0]
  have t1 : s1.data.toList = txt ⟨0, k, 0, ⟨#[]⟩⟩ := by rw [e1]; simp [ba_app, str_list, txt, tail, itoa0]
  have t2 : s2.data.toList = txt ⟨0, 0, k, ⟨#[]⟩⟩ := by rw [e2]; simp [ba_app, str_list, txt, tail, itoa0]
  have q0 : s0.size ≤ 1000 := by rw [e0, ByteArray.size_append, ByteArray.size_append]; have a : (ByteArray.mk #[118]).size = 1 := rfl; have b : (ByteArray.mk #[46, 48, 46, 48]).size = 4 := rfl; omega
  have q1 : s1.size ≤ 1000 := by rw [e1, ByteArray.size_append, ByteArray.size_append]; have a : (ByteArray.mk #[118, 48, 46]).size = 3 := rfl; have b : (ByteArray.mk #[46, 48]).size = 2 := rfl; omega
  have q2 : s2.size ≤ 1000 := by rw [e2, ByteArray.size_append]; have a : (ByteArray.mk #[118, 48, 46, 48, 46]).size = 5 := rfl; omega
  have zb : (0 : Int) ≤ 0 ∧ (0 : Int) < 1000000000 := by decide
  intro j hj
  have : j = 0 ∨ j = 1 ∨ j = 2 := by omega
  rcases this with rfl | rfl | rfl
  · refine ⟨?_, q0⟩
    show (parse s0.data.toList).isSome = _
    rw [t0, parse_parts _ ⟨h0, h⟩ zb zb, o0]
    by_cases hk : k ≤ 999999 <;> simp [hk]
  · refine ⟨?_, q1⟩
    show (parse s1.data.toList).isSome = _
    rw [t1, parse_parts _ zb ⟨h0, h⟩ zb, o1]
    by_cases hk : k ≤ 999999 <;> simp [hk]
  · refine ⟨?_, q2⟩
    show (parse s2.data.toList).isSome = _
    rw [t2, parse_parts _ zb zb ⟨h0, h⟩, o2]
    by_cases hk : k ≤ 999999 <;> simp [hk]
theorem cells3 (w : World) (x y z : ByteArray) : ∀ j, j < 3 → (w.alloc (.cells #[.string x, .string y, .string z] 9)).cell? ⟨w.heap.size, j, none⟩ = some (.string ([x, y, z].getD j ⟨#[]⟩)) := by
  intro j hj
  have : j = 0 ∨ j = 1 ∨ j = 2 := by omega
  rcases this with rfl | rfl | rfl <;> simp [go_sem]

set_option maxHeartbeats 4000000 in
set_option maxRecDepth 100000 in
theorem walk (a0 a1 a2 : Int) (w : World) (he : Env w) (h0 : -9223372036854775808 ≤ a0 ∧ a0 ≤ 9223372036854775807) (h1 : -9223372036854775808 ≤ a1 ∧ a1 ≤ 9223372036854775807) (h2 : -9223372036854775808 ≤ a2 ∧ a2 ≤ 9223372036854775807) :
    Calls Tryz.prog 13 #[.int .i64 a0, .int .i64 a1, .int .i64 a2] w fun e w' => e = .returned (.bool true) ∧ Below w.heap.size w w' := by
  have HE := hide he
  clear he
  go_enter Tryz.func13, Tryz.ntmps13
  go_wp2_with fail
  refine (known_any w HE.out).mono ?_
  rintro e w1 ⟨rfl, b1⟩
  have E1 := hide (HE.out.later b1)
  clear HE
  go_wp2_with fail
  refine (within_nat _ _ _ (by omega) (by omega) (by omega) (by omega)).mono ?_
  rintro e w2 ⟨i, rfl, hi, -, rfl⟩
  obtain ⟨K, hK⟩ : ∃ K : Nat, K = 999990 + i := ⟨_, rfl⟩
  have wK : IntKind.i64.wrap (999990 + (i : Int)) = (K : Int) := by rw [IntKind.wrap_i64]; omega
  have hK0 : (0 : Int) ≤ K := by omega
  have hK1 : (K : Int) < 1000000000 := by omega
  clear hK
  have CD := hide (fun W => ldigits_any (K : Int) W hK0 (by omega))
  have zd := itoa_size (K : Int) hK0 hK1
  have NF := hide (num_fact (K : Int) hK0 hK1)
  generalize str (itoa (K : Int)) = d at *
  have n1 : ¬ 9223372036854775807 < 1 + d.size := by omega
  have n2 : ¬ 9223372036854775807 < 1 + d.size + 4 := by omega
  have n3 : ¬ 9223372036854775807 < 3 + d.size := by omega
  have n4 : ¬ 9223372036854775807 < 3 + d.size + 2 := by omega
  have n5 : ¬ 9223372036854775807 < 5 + d.size := by omega
  have dK : decide ((K : Int) ≤ 999999) = decide ((K : Int) ≤ 999999) := rfl
  clear dK
  go_wp2_with fail
  refine (CD.out _).mono ?_
  rintro e w3 ⟨rfl, b3⟩
  have hB3 := step b1 b3
  go_wp2_with fail
  refine (CD.out _).mono ?_
  rintro e w4 ⟨rfl, b4⟩
  have hB4 := step hB3 b4
  go_wp2_with fail
  refine (CD.out _).mono ?_
  rintro e w5 ⟨rfl, b5⟩
  have hB5 := step hB4 b5
  have E5 := hide (((E1.out.later b3).later b4).later b5)
  clear E1 b1 b3 b4 b5 hB3 hB4 CD
  go_wp2_with fail
  have NF2 := hide (NF.out _ _ _ rfl rfl rfl)
  clear NF
  generalize (⟨#[118]⟩ : ByteArray) ++ d ++ ⟨#[46, 48, 46, 48]⟩ = s0 at *
  generalize (⟨#[118, 48, 46]⟩ : ByteArray) ++ d ++ ⟨#[46, 48]⟩ = s1 at *
  generalize (⟨#[118, 48, 46, 48, 46]⟩ : ByteArray) ++ d = s2 at *
  have C3 := hide (cells3 w5 s0 s1 s2)
  have ba : Below w5.heap.size w5 (w5.alloc (.cells #[.string s0, .string s1, .string s2] 9)) := (Below.refl _ _).alloc (Nat.le_refl _) _
  generalize w5.alloc (.cells #[.string s0, .string s1, .string s2] 9) = w6 at *
  have E6 := hide (E5.out.later ba)
  have hB6 := step hB5 ba
  clear E5 hB5 ba
  refine (within_nat _ _ _ (by omega) (by omega) (by omega) (by omega)).mono ?_
  rintro e w7 ⟨j, rfl, hj, -, rfl⟩
  have hj2 : j < 3 := by omega
  have cj := C3.out j hj2
  obtain ⟨ns, nz⟩ := NF2.out j hj2
  have CP := hide (fun W hW => parse_any ([s0, s1, s2].getD j ⟨#[]⟩) W nz hW)
  generalize [s0, s1, s2].getD j ⟨#[]⟩ = sj at *
  generalize parse sj.data.toList = o at *
  have ho : ∃ u : V, pret o = .tuple #[ver u.a u.b u.c u.p, .bool (decide ((K : Int) ≤ 999999))] := ⟨o.getD V.zero, by rw [← ns]; rfl⟩
  obtain ⟨⟨ua, ub, uc, up⟩, ho⟩ := ho
  rw [ho] at CP
  clear ns ho NF2 C3
  have i1 : (0 : Int) ≤ (j : Int) := by omega
  go_wp2_with fail
  refine (CP.out _ E6.out).mono ?_
  rintro e w8 ⟨rfl, b8⟩
  have hB8 := step hB6 b8
  have ba8 : Below w8.heap.size w8 (w8.alloc (.cells #[.int .i64 ua, .int .i64 ub, .int .i64 uc, .string up] 24)) := (Below.refl _ _).alloc (Nat.le_refl _) _
  have E8 := hide ((E6.out.later b8).later ba8)
  have hB9 := step hB8 ba8
  clear E6 hB6 hB8 b8 CP cj
  go_wp2_with fail
  generalize w8.alloc (.cells #[.int .i64 ua, .int .i64 ub, .int .i64 uc, .string up] 24) = w9 at *
  clear ba8
  refine (within_nat _ _ _ (by omega) (by omega) (by omega) (by omega)).mono ?_
  rintro e w10 ⟨i2, rfl, hi2, -, rfl⟩
  obtain ⟨f1, f2⟩ := pre_fact i2 (by omega)
  obtain ⟨J, hJ⟩ : ∃ J : Nat, J = 35 + i2 := ⟨_, rfl⟩
  rw [← hJ] at f1 f2
  have wJ : IntKind.i64.wrap (35 + (i2 : Int)) = (J : Int) := by rw [IntKind.wrap_i64]; omega
  have j1 : (0 : Int) ≤ (J : Int) := by omega
  have j2 : (J : Int) ≤ 50 := by omega
  have zp : (A50.extract 0 J).size ≤ 50 := by rw [ByteArray.size_extract]; have : A50.size = 50 := rfl; omega
  have n6 : ¬ 9223372036854775807 < 7 + (A50.extract 0 J).size := by omega
  have CQ := hide (fun W hW => parse_any ((ByteArray.mk #[118, 49, 46, 48, 46, 48, 45]) ++ A50.extract 0 J) W (by rw [ByteArray.size_append]; have a : (ByteArray.mk #[118, 49, 46, 48, 46, 48, 45]).size = 7 := rfl; omega) hW)
  have CR := hide (fun W hW => right_any ⟨1, 0, 0, A50.extract 0 J⟩ W (by unfold maxLen; show (A50.extract 0 J).size ≤ _; omega) hW)
  rw [f1] at CQ
  rw [f2] at CR
  clear f1 f2
  generalize hp : A50.extract 0 J = p at *
  have HP := hide hp
  clear hp zp hJ hi2
  by_cases hh : J ≤ 40
  · rw [if_pos hh] at CQ
    rw [decide_eq_true hh] at CR
    simp only [pret, Option.getD_some, Option.isSome_some] at CQ
    have d40 : decide ((J : Int) ≤ 40) = true := by simp; omega
    go_wp2_with fail
    rw [HP.out]
    go_wp2_with fail
    refine (CQ.out _ E8.out).mono ?_
    rintro e w11 ⟨rfl, b11⟩
    have hB11 := step hB9 b11
    have ba11 : Below w11.heap.size w11 (w11.alloc (.cells #[.int .i64 1, .int .i64 0, .int .i64 0, .string p] 24)) := (Below.refl _ _).alloc (Nat.le_refl _) _
    have E11 := hide ((E8.out.later b11).later ba11)
    have hB12 := step hB11 ba11
    have V11 := hide (VarAt.new w11 ⟨1, 0, 0, p⟩)
    go_wp2_with fail
    refine (CR.out _ E11.out).mono ?_
    rintro e w13 ⟨rfl, b13⟩
    have hB13 := step hB12 b13
    obtain ⟨-, c0, c1, c2, c3, -, -, -, -⟩ := V11.out.later b13
    go_wp2_with fail
    go_ret
    exact ⟨by first | rfl | simp, hB13⟩
  · rw [if_neg hh] at CQ
    rw [decide_eq_false hh] at CR
    have CQ2 : Hid (∀ W, Env W → Calls Tryz.prog 19 #[.string ((ByteArray.mk #[118, 49, 46, 48, 46, 48, 45]) ++ p)] W fun e w' => e = .returned (.tuple #[ver 0 0 0 ⟨#[]⟩, .bool false]) ∧ Below W.heap.size W w') := CQ
    clear CQ
    have d40 : decide ((J : Int) ≤ 40) = false := by simp; omega
    go_wp2_with fail
    rw [HP.out]
    go_wp2_with fail
    refine (CQ2.out _ E8.out).mono ?_
    rintro e w11 ⟨rfl, b11⟩
    have hB11 := step hB9 b11
    have ba11 : Below w11.heap.size w11 (w11.alloc (.cells #[.int .i64 0, .int .i64 0, .int .i64 0, .string ⟨#[]⟩] 24)) := (Below.refl _ _).alloc (Nat.le_refl _) _
    have E11 := hide ((E8.out.later b11).later ba11)
    have hB12 := step hB11 ba11
    go_wp2_with fail
    refine (CR.out _ E11.out).mono ?_
    rintro e w13 ⟨rfl, b13⟩
    have hB13 := step hB12 b13
    go_wp2_with fail
    go_ret
    exact ⟨by first | rfl | simp, hB13⟩

end Go.Proofs.YtiicikieemfcmaaGreatDoor.verParts
