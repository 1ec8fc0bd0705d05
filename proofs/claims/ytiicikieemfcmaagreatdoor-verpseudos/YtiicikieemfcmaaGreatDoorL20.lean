/-
  The walk of VerPseudos.
-/
import Derived.Test.YtiicikieemfcmaaGreatDoorU23
namespace Go.Proofs.YtiicikieemfcmaaGreatDoor.verPseudos
set_option linter.unusedSimpArgs false
set_option linter.unusedVariables false
open Go.RowKit Go.Vr Go.Sort Go.Tx Go.Lib
attribute [local go_sem] setCellDrewN allocDrewN

abbrev NX (has : Bool) (u : V) : V := ⟨u.a, u.b, if has = true ∧ u.p.data.toList ≠ [] then u.c else u.c + 1, ByteArray.empty⟩
theorem pseudo_is (has : Bool) (u : V) (n : Nat) (id : ByteArray) (h : n < 100000000000000) (hi : idOk id.data.toList = true) : pseudo has u n id.data.toList = if (pver has u n id.data.toList).ok = true then some (pver has u n id.data.toList) else none := by
  unfold pseudo
  rw [if_pos ⟨timeN_ok n h, hi⟩]
theorem nx_ok (has : Bool) (u : V) (n : Nat) (id : Bs) (hu : u.ok = true) (h0 : has = false → u = V.zero) (h : (pver has u n id).ok = true) : (NX has u).ok = true := by
  obtain ⟨h1, h2, h3, -⟩ := ok_parts hu
  refine made_ok h1 h2 ?_ (by decide +kernel)
  by_cases hh : has = true ∧ u.p.data.toList ≠ []
  · rw [if_pos hh]; exact h3
  · rw [if_neg hh]
    cases has with
    | false => rw [h0 rfl]; exact ⟨by decide, by decide⟩
    | true =>
      have hp : u.p.data.toList = [] := by
        by_cases hp : u.p.data.toList = []
        · exact hp
        · exact absurd ⟨rfl, hp⟩ hh
      have := (ok_parts h).2.2.1
      unfold pver at this
      rw [if_pos rfl, if_pos hp] at this
      exact this
/-- All that the law asks of the two Pseudos and of what is made, in one place. -/
structure All (has : Bool) (u : V) (T : Nat) (ID : ByteArray) (any : Int) (raw : ByteArray) (P Q : V) (f : Bool) : Prop where
  c1 : ∀ W, Env W → Calls Tryz.prog 29 #[.bool has, ver u.a u.b u.c u.p, .int .i64 (T : Int), .string ID] W fun e w' => e = .returned (.tuple #[ver P.a P.b P.c P.p, .bool true]) ∧ Below W.heap.size W w'
  c2 : ∀ W, Calls Tryz.prog 30 #[.bool has, ver u.a u.b u.c u.p, .int .i64 (T : Int), .string ID] W fun e w' => e = .returned (.tuple #[ver P.a P.b P.c P.p, .bool true]) ∧ Below W.heap.size W w'
  c3 : ∀ W, Env W → Calls Tryz.prog 29 #[.bool has, ver u.a u.b u.c u.p, .int .i64 any, .string raw] W fun e w' => e = .returned (.tuple #[ver Q.a Q.b Q.c Q.p, .bool f]) ∧ Below W.heap.size W w'
  c4 : ∀ W, Calls Tryz.prog 30 #[.bool has, ver u.a u.b u.c u.p, .int .i64 any, .string raw] W fun e w' => e = .returned (.tuple #[ver Q.a Q.b Q.c Q.p, .bool f]) ∧ Below W.heap.size W w'
  b : ∀ W, Env W → Calls Tryz.prog 31 #[ver P.a P.b P.c P.p] W fun e w' => e = .returned (.tuple #[.int .i64 (T : Int), .string (ID.extract 0 12), .bool true]) ∧ Below W.heap.size W w'
  d1 : has = true → ∀ W, Env W → Calls Tryz.prog 25 #[ver P.a P.b P.c P.p, ver u.a u.b u.c u.p] W fun e w' => e = .returned (.int .i64 1) ∧ Below W.heap.size W w'
  d2 : ∀ c, c = (NX has u).c → ∀ W, Env W → Calls Tryz.prog 25 #[ver P.a P.b P.c P.p, ver u.a u.b c ⟨#[]⟩] W fun e w' => e = .returned (.int .i64 (-1)) ∧ Below W.heap.size W w'
structure Nay (has : Bool) (u : V) (T : Nat) (ID : ByteArray) (any : Int) (raw : ByteArray) (Q : V) (f : Bool) : Prop where
  c1 : ∀ W, Env W → Calls Tryz.prog 29 #[.bool has, ver u.a u.b u.c u.p, .int .i64 (T : Int), .string ID] W fun e w' => e = .returned (.tuple #[ver 0 0 0 ⟨#[]⟩, .bool false]) ∧ Below W.heap.size W w'
  c2 : ∀ W, Calls Tryz.prog 30 #[.bool has, ver u.a u.b u.c u.p, .int .i64 (T : Int), .string ID] W fun e w' => e = .returned (.tuple #[ver 0 0 0 ⟨#[]⟩, .bool false]) ∧ Below W.heap.size W w'
  c3 : ∀ W, Env W → Calls Tryz.prog 29 #[.bool has, ver u.a u.b u.c u.p, .int .i64 any, .string raw] W fun e w' => e = .returned (.tuple #[ver Q.a Q.b Q.c Q.p, .bool f]) ∧ Below W.heap.size W w'
  c4 : ∀ W, Calls Tryz.prog 30 #[.bool has, ver u.a u.b u.c u.p, .int .i64 any, .string raw] W fun e w' => e = .returned (.tuple #[ver Q.a Q.b Q.c Q.p, .bool f]) ∧ Below W.heap.size W w'
theorem either (has : Bool) (u : V) (T i : Nat) (any : Int) (raw : ByteArray) (hu : u.ok = true) (h0 : has = false → u = V.zero) (hT : T < 100000000000000) (hi : i < 8) (ha : -9223372036854775808 ≤ any ∧ any ≤ 9223372036854775807) (hr : raw.size ≤ 60) :
    (∃ P Q f, All has u T (C20.extract 0 (12 + i)) any raw P Q f) ∨ (∃ Q f, Nay has u T (C20.extract 0 (12 + i)) any raw Q f) := by
  obtain ⟨i1, i2, i3⟩ := id_fact i hi
  generalize C20.extract 0 (12 + i) = ID at *
  have hz := ok_size hu
  have hcc := (ok_parts hu).2.2.1
  obtain ⟨s1, s2, s3⟩ := pver_says has u T ID hT i1 h0
  have C1 := fun W hW => pseudo_any has u T ID W hcc (by omega) (by omega) (by omega) (by omega) hW
  have C2 := fun W => rpseudo_any has u T ID W hcc (by omega) (by omega)
  have C3 := fun W hW => pseudo_any has u any raw W hcc (by omega) ha.1 ha.2 (by omega) hW
  have C4 := fun W => rpseudo_any has u any raw W hcc (by omega) (by omega)
  obtain ⟨Q, f, hq⟩ := pret_is (pseudo has u any raw.data.toList)
  rw [hq] at C3 C4
  rw [pseudo_is _ _ _ _ hT i1] at C1 C2
  by_cases hk : (pver has u T ID.data.toList).ok = true
  · rw [if_pos hk] at C1 C2
    refine .inl ⟨pver has u T ID.data.toList, Q, f, C1, C2, C3, C4, ?_, ?_, ?_⟩
    · intro W hW
      have B := behindV_any (pver has u T ID.data.toList) W (by have := ok_size hk; omega) hW
      rw [s1] at B
      have e : bret (some ((T : Int), ID.data.toList.take 12)) = .tuple #[.int .i64 (T : Int), .string (ID.extract 0 12), .bool true] := by rw [← i3]; rfl
      rw [e] at B
      exact B
    · intro e W hW
      have D := cmp_any (pver has u T ID.data.toList) u W hk hu hW
      rw [s2 e] at D
      exact D
    · rintro c rfl W hW
      have D := cmp_any (pver has u T ID.data.toList) (NX has u) W hk (nx_ok has u T ID.data.toList hu h0 hk) hW
      rw [s3] at D
      exact D
  · rw [if_neg hk] at C1 C2
    exact .inr ⟨Q, f, C1, C2, C3, C4⟩

set_option maxHeartbeats 8000000 in
set_option maxRecDepth 100000 in
theorem walk (a0 : Bool) (a1 a2 a3 : Int) (s : ByteArray) (a5 : Int) (w : World) (he : Env w) (h1 : -9223372036854775808 ≤ a1 ∧ a1 ≤ 9223372036854775807) (h2 : -9223372036854775808 ≤ a2 ∧ a2 ≤ 9223372036854775807) (h3 : -9223372036854775808 ≤ a3 ∧ a3 ≤ 9223372036854775807) (hs : s.size ≤ maxLen) (h5 : -9223372036854775808 ≤ a5 ∧ a5 ≤ 9223372036854775807) :
    Calls Tryz.prog 8 #[.bool a0, .int .i64 a1, .int .i64 a2, .int .i64 a3, .string s, .int .i64 a5] w fun e w' => e = .returned (.bool true) ∧ Below w.heap.size w w' := by
  have HE := hide he
  clear he
  by_cases hlong : 60 < s.size
  · have hd : ((s.size : Int) > 60) := by omega
    go_enter Tryz.func8, Tryz.ntmps8
    go_wp2_with fail
    refine (known_any w HE.out).mono ?_
    rintro e w1 ⟨rfl, b1⟩
    go_wp2_with fail
    go_ret
    exact ⟨by first | rfl | simp, b1⟩
  · have hr : s.size ≤ 60 := by omega
    cases a0
    · go_enter Tryz.func8, Tryz.ntmps8
      go_wp2_with fail
      refine (known_any w HE.out).mono ?_
      rintro e w1 ⟨rfl, b1⟩
      go_wp2_with fail
      refine (make_any a1 a2 _ h1 h2).mono ?_
      rintro e w2 ⟨v, rfl, hv, b2⟩
      have hB2 := step b1 b2
      obtain ⟨ua, ub, uc, up⟩ := v
      clear b1 b2 h1 h2
      go_wp2_with fail
      have hu : (V.mk 0 0 0 ⟨#[]⟩).ok = true := by decide +kernel
      have ba2 : Below w2.heap.size w2 (w2.alloc (.cells #[.int .i64 0, .int .i64 0, .int .i64 0, .string ⟨#[]⟩] 24)) := (Below.refl _ _).alloc (Nat.le_refl _) _
      have V2 := hide (VarAt.new w2 (V.mk 0 0 0 ⟨#[]⟩))
      have hB3 := step hB2 ba2
      clear ba2 hB2
      refine (within_nat _ _ _ (by omega) (by omega) (by omega) (by omega)).mono ?_
      rintro e w3 ⟨T, rfl, hT, -, rfl⟩
      go_wp2_with fail
      refine (within_nat _ _ _ (by omega) (by omega) (by omega) (by omega)).mono ?_
      rintro e w4 ⟨i, rfl, hi, -, rfl⟩
      have hi2 : i < 8 := by omega
      have hO := hide (either false (V.mk 0 0 0 ⟨#[]⟩) T i a5 s hu (by intro _; rfl) (by omega) hi2 h5 hr)
      have hsz := hide (id_fact i hi2).2.1
      have hw12 : IntKind.i64.wrap (12 + (i : Int)) = ((12 + i : Nat) : Int) := by rw [IntKind.wrap_i64]; omega
      have hn12 : ¬ ((12 + i : Nat) : Int) < 0 := by omega
      have hm12 : ¬ (20 : Int) < ((12 + i : Nat) : Int) := by omega

      have hcu := hide (ok_parts hu).2.2.1
      clear hv hu hi hT h5 hr hlong hs h3
      go_wp2_with fail
      generalize C20.extract 0 (12 + i) = ID at *
      have h12 : (12 : Int) ≤ (ID.size : Int) := by have := hsz.out; omega
      have h12n : 12 ≤ ID.size := by omega
      clear hw12 hn12 hm12
      rcases hO.out with ⟨P, Q, f, hA⟩ | ⟨Q, f, hA⟩
      · have C1 := hide hA.c1
        have C2 := hide hA.c2
        have C3 := hide hA.c3
        have C4 := hide hA.c4
        have CB := hide hA.b
        have D0 := hide hA.d2
        clear hO hA hsz
        obtain ⟨pa, pb, pc, pp⟩ := P
        obtain ⟨qa, qb, qc, qp⟩ := Q
        refine (C1.out _ (HE.out.later hB3)).mono ?_
        rintro e w5 ⟨rfl, b5⟩
        have ba : Below w5.heap.size w5 (w5.alloc (.cells #[.int .i64 pa, .int .i64 pb, .int .i64 pc, .string pp] 24)) := (Below.refl _ _).alloc (Nat.le_refl _) _
        have hB5 := step (step hB3 b5) ba
        have V5 := hide ((V2.out.later b5).later ba)
        obtain ⟨k, c0, c1, c2, c3, -, -, -, -⟩ := V2.out.later b5
        have hne : ¬ w2.heap.size = w5.heap.size := by omega
        have P5 := hide (VarAt.new w5 ⟨pa, pb, pc, pp⟩)
        clear ba b5 hB3 C1
        clear V2
        go_wp2_with fail
        refine (C2.out _).mono ?_
        rintro e w6 ⟨rfl, b6⟩
        have ba : Below w6.heap.size w6 (w6.alloc (.cells #[.int .i64 pa, .int .i64 pb, .int .i64 pc, .string pp] 24)) := (Below.refl _ _).alloc (Nat.le_refl _) _
        have hB6 := step (step hB5 b6) ba
        have V6 := hide ((V5.out.later b6).later ba)
        have P6 := hide ((P5.out.later b6).later ba)
        try clear c0 c1 c2 c3 k hne
        obtain ⟨k, c0, c1, c2, c3, -, -, -, -⟩ := V5.out.later b6
        have hne : ¬ w2.heap.size = w6.heap.size := by omega
        have R6 := hide (VarAt.new w6 ⟨pa, pb, pc, pp⟩)
        clear ba b6 hB5 C2
        clear V5
        clear P5
        go_wp2_with fail
        refine (C3.out _ (HE.out.later hB6)).mono ?_
        rintro e w7 ⟨rfl, b7⟩
        have ba : Below w7.heap.size w7 (w7.alloc (.cells #[.int .i64 qa, .int .i64 qb, .int .i64 qc, .string qp] 24)) := (Below.refl _ _).alloc (Nat.le_refl _) _
        have hB7 := step (step hB6 b7) ba
        have V7 := hide ((V6.out.later b7).later ba)
        have P7 := hide ((P6.out.later b7).later ba)
        have R7 := hide ((R6.out.later b7).later ba)
        try clear c0 c1 c2 c3 k hne
        obtain ⟨k, c0, c1, c2, c3, -, -, -, -⟩ := V6.out.later b7
        have hne : ¬ w2.heap.size = w7.heap.size := by omega
        have Q7 := hide (VarAt.new w7 ⟨qa, qb, qc, qp⟩)
        clear ba b7 hB6 C3
        clear V6
        clear P6
        clear R6
        go_wp2_with fail
        refine (C4.out _).mono ?_
        rintro e w8 ⟨rfl, b8⟩
        have ba : Below w8.heap.size w8 (w8.alloc (.cells #[.int .i64 qa, .int .i64 qb, .int .i64 qc, .string qp] 24)) := (Below.refl _ _).alloc (Nat.le_refl _) _
        have hB8 := step (step hB7 b8) ba
        have V8 := hide ((V7.out.later b8).later ba)
        have P8 := hide ((P7.out.later b8).later ba)
        have R8 := hide ((R7.out.later b8).later ba)
        have Q8 := hide ((Q7.out.later b8).later ba)
        try clear c0 c1 c2 c3 k hne
        obtain ⟨kP, c0P, c1P, c2P, c3P, -, -, -, -⟩ := P7.out.later b8
        have hneP : ¬ w5.heap.size = w8.heap.size := by omega
        obtain ⟨kR, c0R, c1R, c2R, c3R, -, -, -, -⟩ := R7.out.later b8
        have hneR : ¬ w6.heap.size = w8.heap.size := by omega
        obtain ⟨kQ, c0Q, c1Q, c2Q, c3Q, -, -, -, -⟩ := Q7.out.later b8
        have hneQ : ¬ w7.heap.size = w8.heap.size := by omega
        have S8 := hide (VarAt.new w8 ⟨qa, qb, qc, qp⟩)
        clear ba b8 hB7 C4
        clear V7
        clear P7
        clear R7
        clear Q7
        go_wp2_with fail
        try clear c0P c1P c2P c3P kP hneP c0R c1R c2R c3R kR hneR c0Q c1Q c2Q c3Q kQ hneQ
        refine (CB.out _ (HE.out.later hB8)).mono ?_
        rintro e w9 ⟨rfl, b9⟩
        have hB9 := step hB8 b9
        have V9 := hide (V8.out.later b9)
        have P9 := hide (P8.out.later b9)
        clear b9 hB8 V8 P8 R8 Q8 S8 CB
        obtain ⟨kV, v0, v1, v2, v3, -, -, -, -⟩ := V9.out
        obtain ⟨kP, p0, p1, p2, p3, -, -, -, -⟩ := P9.out
        have hneV : ¬ w2.heap.size = w9.heap.size := by omega
        have hneP : ¬ w5.heap.size = w9.heap.size := by omega
        have D2 := hide (D0.out 1 rfl)
        clear D0
        have ba : Below w9.heap.size w9 (w9.alloc (.cells #[.int .i64 0, .int .i64 0, .int .i64 1, .string ⟨#[]⟩] 24)) := (Below.refl _ _).alloc (Nat.le_refl _) _
        have hB10 := step hB9 ba
        have X10 := hide (VarAt.new w9 ⟨0, 0, 1, ⟨#[]⟩⟩)
        have P10 := hide (P9.out.later ba)
        clear ba
        go_wp2_with fail
        refine (D2.out _ (HE.out.later hB10)).mono ?_
        rintro e w12 ⟨rfl, b12⟩
        go_wp2_with fail
        go_ret
        exact ⟨by first | rfl | simp, step hB10 b12⟩
      · have C1 := hide hA.c1
        have C2 := hide hA.c2
        have C3 := hide hA.c3
        have C4 := hide hA.c4
        clear hO hA hsz
        obtain ⟨qa, qb, qc, qp⟩ := Q
        refine (C1.out _ (HE.out.later hB3)).mono ?_
        rintro e w5 ⟨rfl, b5⟩
        have ba : Below w5.heap.size w5 (w5.alloc (.cells #[.int .i64 0, .int .i64 0, .int .i64 0, .string ⟨#[]⟩] 24)) := (Below.refl _ _).alloc (Nat.le_refl _) _
        have hB5 := step (step hB3 b5) ba
        have V5 := hide ((V2.out.later b5).later ba)
        obtain ⟨k, c0, c1, c2, c3, -, -, -, -⟩ := V2.out.later b5
        have hne : ¬ w2.heap.size = w5.heap.size := by omega
        have P5 := hide (VarAt.new w5 ⟨0, 0, 0, ⟨#[]⟩⟩)
        clear ba b5 hB3 C1
        clear V2
        go_wp2_with fail
        refine (C2.out _).mono ?_
        rintro e w6 ⟨rfl, b6⟩
        have ba : Below w6.heap.size w6 (w6.alloc (.cells #[.int .i64 0, .int .i64 0, .int .i64 0, .string ⟨#[]⟩] 24)) := (Below.refl _ _).alloc (Nat.le_refl _) _
        have hB6 := step (step hB5 b6) ba
        have V6 := hide ((V5.out.later b6).later ba)
        have P6 := hide ((P5.out.later b6).later ba)
        try clear c0 c1 c2 c3 k hne
        obtain ⟨k, c0, c1, c2, c3, -, -, -, -⟩ := V5.out.later b6
        have hne : ¬ w2.heap.size = w6.heap.size := by omega
        have R6 := hide (VarAt.new w6 ⟨0, 0, 0, ⟨#[]⟩⟩)
        clear ba b6 hB5 C2
        clear V5
        clear P5
        go_wp2_with fail
        refine (C3.out _ (HE.out.later hB6)).mono ?_
        rintro e w7 ⟨rfl, b7⟩
        have ba : Below w7.heap.size w7 (w7.alloc (.cells #[.int .i64 qa, .int .i64 qb, .int .i64 qc, .string qp] 24)) := (Below.refl _ _).alloc (Nat.le_refl _) _
        have hB7 := step (step hB6 b7) ba
        have V7 := hide ((V6.out.later b7).later ba)
        have P7 := hide ((P6.out.later b7).later ba)
        have R7 := hide ((R6.out.later b7).later ba)
        try clear c0 c1 c2 c3 k hne
        obtain ⟨k, c0, c1, c2, c3, -, -, -, -⟩ := V6.out.later b7
        have hne : ¬ w2.heap.size = w7.heap.size := by omega
        have Q7 := hide (VarAt.new w7 ⟨qa, qb, qc, qp⟩)
        clear ba b7 hB6 C3
        clear V6
        clear P6
        clear R6
        go_wp2_with fail
        refine (C4.out _).mono ?_
        rintro e w8 ⟨rfl, b8⟩
        have ba : Below w8.heap.size w8 (w8.alloc (.cells #[.int .i64 qa, .int .i64 qb, .int .i64 qc, .string qp] 24)) := (Below.refl _ _).alloc (Nat.le_refl _) _
        have hB8 := step (step hB7 b8) ba
        have V8 := hide ((V7.out.later b8).later ba)
        have P8 := hide ((P7.out.later b8).later ba)
        have R8 := hide ((R7.out.later b8).later ba)
        have Q8 := hide ((Q7.out.later b8).later ba)
        try clear c0 c1 c2 c3 k hne
        obtain ⟨kP, c0P, c1P, c2P, c3P, -, -, -, -⟩ := P7.out.later b8
        have hneP : ¬ w5.heap.size = w8.heap.size := by omega
        obtain ⟨kR, c0R, c1R, c2R, c3R, -, -, -, -⟩ := R7.out.later b8
        have hneR : ¬ w6.heap.size = w8.heap.size := by omega
        obtain ⟨kQ, c0Q, c1Q, c2Q, c3Q, -, -, -, -⟩ := Q7.out.later b8
        have hneQ : ¬ w7.heap.size = w8.heap.size := by omega
        have S8 := hide (VarAt.new w8 ⟨qa, qb, qc, qp⟩)
        clear ba b8 hB7 C4
        clear V7
        clear P7
        clear R7
        clear Q7
        go_wp2_with fail
        go_ret
        exact ⟨by first | rfl | simp, hB8⟩
    · go_enter Tryz.func8, Tryz.ntmps8
      go_wp2_with fail
      refine (known_any w HE.out).mono ?_
      rintro e w1 ⟨rfl, b1⟩
      go_wp2_with fail
      refine (make_any a1 a2 _ h1 h2).mono ?_
      rintro e w2 ⟨v, rfl, hv, b2⟩
      have hB2 := step b1 b2
      obtain ⟨ua, ub, uc, up⟩ := v
      clear b1 b2 h1 h2
      go_wp2_with fail
      have hu : (V.mk ua ub uc up).ok = true := hv
      have ba2 : Below w2.heap.size w2 (w2.alloc (.cells #[.int .i64 ua, .int .i64 ub, .int .i64 uc, .string up] 24)) := (Below.refl _ _).alloc (Nat.le_refl _) _
      have V2 := hide (VarAt.new w2 (V.mk ua ub uc up))
      have hB3 := step hB2 ba2
      clear ba2 hB2
      refine (within_nat _ _ _ (by omega) (by omega) (by omega) (by omega)).mono ?_
      rintro e w3 ⟨T, rfl, hT, -, rfl⟩
      go_wp2_with fail
      refine (within_nat _ _ _ (by omega) (by omega) (by omega) (by omega)).mono ?_
      rintro e w4 ⟨i, rfl, hi, -, rfl⟩
      have hi2 : i < 8 := by omega
      have hO := hide (either true (V.mk ua ub uc up) T i a5 s hu (by intro h; cases h) (by omega) hi2 h5 hr)
      have hsz := hide (id_fact i hi2).2.1
      have hw12 : IntKind.i64.wrap (12 + (i : Int)) = ((12 + i : Nat) : Int) := by rw [IntKind.wrap_i64]; omega
      have hn12 : ¬ ((12 + i : Nat) : Int) < 0 := by omega
      have hm12 : ¬ (20 : Int) < ((12 + i : Nat) : Int) := by omega

      have hcu := hide (ok_parts hu).2.2.1
      clear hv hu hi hT h5 hr hlong hs h3
      go_wp2_with fail
      generalize C20.extract 0 (12 + i) = ID at *
      have h12 : (12 : Int) ≤ (ID.size : Int) := by have := hsz.out; omega
      have h12n : 12 ≤ ID.size := by omega
      clear hw12 hn12 hm12
      rcases hO.out with ⟨P, Q, f, hA⟩ | ⟨Q, f, hA⟩
      · have C1 := hide hA.c1
        have C2 := hide hA.c2
        have C3 := hide hA.c3
        have C4 := hide hA.c4
        have CB := hide hA.b
        have D1 := hide (hA.d1 rfl)
        have D0 := hide hA.d2
        clear hO hA hsz
        obtain ⟨pa, pb, pc, pp⟩ := P
        obtain ⟨qa, qb, qc, qp⟩ := Q
        refine (C1.out _ (HE.out.later hB3)).mono ?_
        rintro e w5 ⟨rfl, b5⟩
        have ba : Below w5.heap.size w5 (w5.alloc (.cells #[.int .i64 pa, .int .i64 pb, .int .i64 pc, .string pp] 24)) := (Below.refl _ _).alloc (Nat.le_refl _) _
        have hB5 := step (step hB3 b5) ba
        have V5 := hide ((V2.out.later b5).later ba)
        obtain ⟨k, c0, c1, c2, c3, -, -, -, -⟩ := V2.out.later b5
        have hne : ¬ w2.heap.size = w5.heap.size := by omega
        have P5 := hide (VarAt.new w5 ⟨pa, pb, pc, pp⟩)
        clear ba b5 hB3 C1
        clear V2
        go_wp2_with fail
        refine (C2.out _).mono ?_
        rintro e w6 ⟨rfl, b6⟩
        have ba : Below w6.heap.size w6 (w6.alloc (.cells #[.int .i64 pa, .int .i64 pb, .int .i64 pc, .string pp] 24)) := (Below.refl _ _).alloc (Nat.le_refl _) _
        have hB6 := step (step hB5 b6) ba
        have V6 := hide ((V5.out.later b6).later ba)
        have P6 := hide ((P5.out.later b6).later ba)
        try clear c0 c1 c2 c3 k hne
        obtain ⟨k, c0, c1, c2, c3, -, -, -, -⟩ := V5.out.later b6
        have hne : ¬ w2.heap.size = w6.heap.size := by omega
        have R6 := hide (VarAt.new w6 ⟨pa, pb, pc, pp⟩)
        clear ba b6 hB5 C2
        clear V5
        clear P5
        go_wp2_with fail
        refine (C3.out _ (HE.out.later hB6)).mono ?_
        rintro e w7 ⟨rfl, b7⟩
        have ba : Below w7.heap.size w7 (w7.alloc (.cells #[.int .i64 qa, .int .i64 qb, .int .i64 qc, .string qp] 24)) := (Below.refl _ _).alloc (Nat.le_refl _) _
        have hB7 := step (step hB6 b7) ba
        have V7 := hide ((V6.out.later b7).later ba)
        have P7 := hide ((P6.out.later b7).later ba)
        have R7 := hide ((R6.out.later b7).later ba)
        try clear c0 c1 c2 c3 k hne
        obtain ⟨k, c0, c1, c2, c3, -, -, -, -⟩ := V6.out.later b7
        have hne : ¬ w2.heap.size = w7.heap.size := by omega
        have Q7 := hide (VarAt.new w7 ⟨qa, qb, qc, qp⟩)
        clear ba b7 hB6 C3
        clear V6
        clear P6
        clear R6
        go_wp2_with fail
        refine (C4.out _).mono ?_
        rintro e w8 ⟨rfl, b8⟩
        have ba : Below w8.heap.size w8 (w8.alloc (.cells #[.int .i64 qa, .int .i64 qb, .int .i64 qc, .string qp] 24)) := (Below.refl _ _).alloc (Nat.le_refl _) _
        have hB8 := step (step hB7 b8) ba
        have V8 := hide ((V7.out.later b8).later ba)
        have P8 := hide ((P7.out.later b8).later ba)
        have R8 := hide ((R7.out.later b8).later ba)
        have Q8 := hide ((Q7.out.later b8).later ba)
        try clear c0 c1 c2 c3 k hne
        obtain ⟨kP, c0P, c1P, c2P, c3P, -, -, -, -⟩ := P7.out.later b8
        have hneP : ¬ w5.heap.size = w8.heap.size := by omega
        obtain ⟨kR, c0R, c1R, c2R, c3R, -, -, -, -⟩ := R7.out.later b8
        have hneR : ¬ w6.heap.size = w8.heap.size := by omega
        obtain ⟨kQ, c0Q, c1Q, c2Q, c3Q, -, -, -, -⟩ := Q7.out.later b8
        have hneQ : ¬ w7.heap.size = w8.heap.size := by omega
        have S8 := hide (VarAt.new w8 ⟨qa, qb, qc, qp⟩)
        clear ba b8 hB7 C4
        clear V7
        clear P7
        clear R7
        clear Q7
        go_wp2_with fail
        try clear c0P c1P c2P c3P kP hneP c0R c1R c2R c3R kR hneR c0Q c1Q c2Q c3Q kQ hneQ
        refine (CB.out _ (HE.out.later hB8)).mono ?_
        rintro e w9 ⟨rfl, b9⟩
        have hB9 := step hB8 b9
        have V9 := hide (V8.out.later b9)
        have P9 := hide (P8.out.later b9)
        clear b9 hB8 V8 P8 R8 Q8 S8 CB
        obtain ⟨kV, v0, v1, v2, v3, -, -, -, -⟩ := V9.out
        obtain ⟨kP, p0, p1, p2, p3, -, -, -, -⟩ := P9.out
        have hneV : ¬ w2.heap.size = w9.heap.size := by omega
        have hneP : ¬ w5.heap.size = w9.heap.size := by omega
        have hc := hcu.out
        have hw : IntKind.i64.wrap (uc + 1) = uc + 1 := by rw [IntKind.wrap_i64]; omega
        by_cases hl : up.data.toList = []
        · have hup : up = ⟨#[]⟩ := by cases up; simp at hl; rw [hl]
          have D2 := hide (D0.out (uc + 1) (by simp [hl]))
          subst hup
          clear D0 hl
          have ba : Below w9.heap.size w9 (w9.alloc (.cells #[.int .i64 ua, .int .i64 ub, .int .i64 (uc + 1), .string ⟨#[]⟩] 24)) := (Below.refl _ _).alloc (Nat.le_refl _) _
          have hB10 := step hB9 ba
          have X10 := hide (VarAt.new w9 ⟨ua, ub, (uc + 1), ⟨#[]⟩⟩)
          have P10 := hide (P9.out.later ba)
          clear ba
          go_wp2_with fail
          refine (D1.out _ (HE.out.later hB10)).mono ?_
          rintro e w10 ⟨rfl, b10⟩
          have hB11 := step hB10 b10
          clear v0 v1 v2 v3 kV kP p0 p1 p2 p3 hneV hneP
          obtain ⟨kX, x0, x1, x2, x3, -, -, -, -⟩ := X10.out.later b10
          obtain ⟨kP, p0, p1, p2, p3, -, -, -, -⟩ := P10.out.later b10
          go_wp2_with fail
          refine (D2.out _ (HE.out.later hB11)).mono ?_
          rintro e w12 ⟨rfl, b12⟩
          go_wp2_with fail
          go_ret
          exact ⟨by first | rfl | simp, step hB11 b12⟩
        · have he1 : up.toList.isEmpty = false := by rw [toList_data]; simpa using hl
          have D2 := hide (D0.out uc (by simp [hl]))
          clear D0 hl
          have ba : Below w9.heap.size w9 (w9.alloc (.cells #[.int .i64 ua, .int .i64 ub, .int .i64 uc, .string ⟨#[]⟩] 24)) := (Below.refl _ _).alloc (Nat.le_refl _) _
          have hB10 := step hB9 ba
          have X10 := hide (VarAt.new w9 ⟨ua, ub, uc, ⟨#[]⟩⟩)
          have P10 := hide (P9.out.later ba)
          clear ba
          go_wp2_with fail
          refine (D1.out _ (HE.out.later hB10)).mono ?_
          rintro e w10 ⟨rfl, b10⟩
          have hB11 := step hB10 b10
          clear v0 v1 v2 v3 kV kP p0 p1 p2 p3 hneV hneP
          obtain ⟨kX, x0, x1, x2, x3, -, -, -, -⟩ := X10.out.later b10
          obtain ⟨kP, p0, p1, p2, p3, -, -, -, -⟩ := P10.out.later b10
          go_wp2_with fail
          refine (D2.out _ (HE.out.later hB11)).mono ?_
          rintro e w12 ⟨rfl, b12⟩
          go_wp2_with fail
          go_ret
          exact ⟨by first | rfl | simp, step hB11 b12⟩
      · have C1 := hide hA.c1
        have C2 := hide hA.c2
        have C3 := hide hA.c3
        have C4 := hide hA.c4
        clear hO hA hsz
        obtain ⟨qa, qb, qc, qp⟩ := Q
        refine (C1.out _ (HE.out.later hB3)).mono ?_
        rintro e w5 ⟨rfl, b5⟩
        have ba : Below w5.heap.size w5 (w5.alloc (.cells #[.int .i64 0, .int .i64 0, .int .i64 0, .string ⟨#[]⟩] 24)) := (Below.refl _ _).alloc (Nat.le_refl _) _
        have hB5 := step (step hB3 b5) ba
        have V5 := hide ((V2.out.later b5).later ba)
        obtain ⟨k, c0, c1, c2, c3, -, -, -, -⟩ := V2.out.later b5
        have hne : ¬ w2.heap.size = w5.heap.size := by omega
        have P5 := hide (VarAt.new w5 ⟨0, 0, 0, ⟨#[]⟩⟩)
        clear ba b5 hB3 C1
        clear V2
        go_wp2_with fail
        refine (C2.out _).mono ?_
        rintro e w6 ⟨rfl, b6⟩
        have ba : Below w6.heap.size w6 (w6.alloc (.cells #[.int .i64 0, .int .i64 0, .int .i64 0, .string ⟨#[]⟩] 24)) := (Below.refl _ _).alloc (Nat.le_refl _) _
        have hB6 := step (step hB5 b6) ba
        have V6 := hide ((V5.out.later b6).later ba)
        have P6 := hide ((P5.out.later b6).later ba)
        try clear c0 c1 c2 c3 k hne
        obtain ⟨k, c0, c1, c2, c3, -, -, -, -⟩ := V5.out.later b6
        have hne : ¬ w2.heap.size = w6.heap.size := by omega
        have R6 := hide (VarAt.new w6 ⟨0, 0, 0, ⟨#[]⟩⟩)
        clear ba b6 hB5 C2
        clear V5
        clear P5
        go_wp2_with fail
        refine (C3.out _ (HE.out.later hB6)).mono ?_
        rintro e w7 ⟨rfl, b7⟩
        have ba : Below w7.heap.size w7 (w7.alloc (.cells #[.int .i64 qa, .int .i64 qb, .int .i64 qc, .string qp] 24)) := (Below.refl _ _).alloc (Nat.le_refl _) _
        have hB7 := step (step hB6 b7) ba
        have V7 := hide ((V6.out.later b7).later ba)
        have P7 := hide ((P6.out.later b7).later ba)
        have R7 := hide ((R6.out.later b7).later ba)
        try clear c0 c1 c2 c3 k hne
        obtain ⟨k, c0, c1, c2, c3, -, -, -, -⟩ := V6.out.later b7
        have hne : ¬ w2.heap.size = w7.heap.size := by omega
        have Q7 := hide (VarAt.new w7 ⟨qa, qb, qc, qp⟩)
        clear ba b7 hB6 C3
        clear V6
        clear P6
        clear R6
        go_wp2_with fail
        refine (C4.out _).mono ?_
        rintro e w8 ⟨rfl, b8⟩
        have ba : Below w8.heap.size w8 (w8.alloc (.cells #[.int .i64 qa, .int .i64 qb, .int .i64 qc, .string qp] 24)) := (Below.refl _ _).alloc (Nat.le_refl _) _
        have hB8 := step (step hB7 b8) ba
        have V8 := hide ((V7.out.later b8).later ba)
        have P8 := hide ((P7.out.later b8).later ba)
        have R8 := hide ((R7.out.later b8).later ba)
        have Q8 := hide ((Q7.out.later b8).later ba)
        try clear c0 c1 c2 c3 k hne
        obtain ⟨kP, c0P, c1P, c2P, c3P, -, -, -, -⟩ := P7.out.later b8
        have hneP : ¬ w5.heap.size = w8.heap.size := by omega
        obtain ⟨kR, c0R, c1R, c2R, c3R, -, -, -, -⟩ := R7.out.later b8
        have hneR : ¬ w6.heap.size = w8.heap.size := by omega
        obtain ⟨kQ, c0Q, c1Q, c2Q, c3Q, -, -, -, -⟩ := Q7.out.later b8
        have hneQ : ¬ w7.heap.size = w8.heap.size := by omega
        have S8 := hide (VarAt.new w8 ⟨qa, qb, qc, qp⟩)
        clear ba b8 hB7 C4
        clear V7
        clear P7
        clear R7
        clear Q7
        go_wp2_with fail
        go_ret
        exact ⟨by first | rfl | simp, hB8⟩

end Go.Proofs.YtiicikieemfcmaaGreatDoor.verPseudos
