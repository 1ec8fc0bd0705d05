/-
  Contract of slices.CompareFunc at texts, by cmpWord.
  Contract of Cmp.
  Contract of Cmp, of versions whose parts are the same; of all.
-/
import Derived.Test.YthihnpjbdjmbhaaGreatDoorG11

namespace Go.Proofs.YthihnpjbdjmbhaaGreatDoor
set_option linter.unusedSimpArgs false
set_option linter.unusedVariables false
open Go.RowKit Go.Vr Go.Sort Go.Tx Go.Lib
attribute [local go_sem] setCellDrewN allocDrewN

set_option maxHeartbeats 2000000 in
set_option maxRecDepth 100000 in
theorem compareF_any (g1 k1 g2 k2 : Nat) (ws us : List Bs) (w : World) (h1 : ∀ i, i < ws.length → w.cell? ⟨g1, i, none⟩ = some (.string (str (ws.getD i [])))) (h2 : ∀ i, i < us.length → w.cell? ⟨g2, i, none⟩ = some (.string (str (us.getD i []))))
    (n1 : ws.length ≤ 10000) (n2 : us.length ≤ 10000) (o1 : ∀ x ∈ ws, x.length ≠ 0 ∧ x.length ≤ 10000) (o2 : ∀ x ∈ us, x.length ≠ 0 ∧ x.length ≤ 10000) :
    Calls Tryz.prog 84 #[.slice (some ⟨g1, 0, none⟩) ws.length k1, .slice (some ⟨g2, 0, none⟩) us.length k2, .func (.func 86) #[] #[]] w fun e w' => e = .returned (.int .i64 (lex cmpW ws us)) ∧ Below w.heap.size w w' := by
  have H1 := hide h1
  have H2 := hide h2
  have O1 := hide o1
  have O2 := hide o2
  have EN := cmpWord_enters
  clear h1 h2 o1 o2
  go_enter Tryz.func84, Tryz.ntmps84
  go_wp2_with fail
  go_loopw [7, 8, 9, 10, 13] (fun _ _ _ _ i wr => ∃ k : Nat, k ≤ ws.length ∧ k ≤ us.length ∧ i = .int .i64 k ∧ Hid (lex cmpW ws us = lex cmpW (ws.drop k) (us.drop k)) ∧ Below w.heap.size w wr) (fun _ _ _ _ i _ => ws.length - (RowKit.intOf i).toNat)
  case atStart => exact ⟨0, by omega, by omega, rfl, rfl, Below.refl _ _⟩
  case round =>
    obtain ⟨k, hkw, hku, rfl, HL, hB⟩ := hrel
    by_cases hlw : k < ws.length
    · have z1 : decide ((k : Int) < (ws.length : Int)) = true := by simp; omega
      have y1 := cellLater hB (H1.out k hlw)
      have r1 := O1.out _ (getD_mem ws k hlw)
      have i1 : (0 : Int) ≤ (k : Int) := by omega
      have i2 : (k : Int) < (ws.length : Int) := by omega
      by_cases hlu : k < us.length
      · have z2 : decide ((us.length : Int) ≤ (k : Int)) = false := by simp; omega
        have y2 := cellLater hB (H2.out k hlu)
        have r2 := O2.out _ (getD_mem us k hlu)
        have i3 : (k : Int) < (us.length : Int) := by omega
        have HL2 : Hid (lex cmpW ws us = seq (cmpW (ws.getD k []) (us.getD k [])) (lex cmpW (ws.drop (k + 1)) (us.drop (k + 1)))) := by
          show lex cmpW ws us = _
          rw [HL.out, drop_getD ws k hlw, drop_getD us k hlu]; rfl
        generalize ws.getD k [] = xx at *
        generalize us.getD k [] = yy at *
        have HW := hide (cmpWord_any (str xx) (str yy) wr (by rw [Tx.str_size]; exact r1.2) (by rw [Tx.str_size]; exact r2.2) (by rw [Tx.str_size]; exact r1.1) (by rw [Tx.str_size]; exact r2.1))
        rw [str_list, str_list] at HW
        cases hq : (cmpW xx yy != 0) with
        | true =>
          have HR : Hid (lex cmpW ws us = cmpW xx yy) := by show _ = _; rw [HL2.out]; exact seq_ne (by simpa using hq)
          go_wp2_with fail
          refine HW.out.mono ?_
          rintro e w1 ⟨rfl, b1⟩
          go_wp2_with fail
          go_ret
          exact ⟨ret_int HR.out.symm, step hB b1⟩
        | false =>
          have HR : Hid (lex cmpW ws us = lex cmpW (ws.drop (k + 1)) (us.drop (k + 1))) := by
            show _ = _
            have e : cmpW xx yy = 0 := by simpa using hq
            rw [HL2.out, e, seq_zero]
          go_wp2_with fail
          refine HW.out.mono ?_
          rintro e w1 ⟨rfl, b1⟩
          go_wp2_with fail
          go_roundw
          case rel => exact ⟨k + 1, by omega, by omega, by go_num, HR, step hB b1⟩
          case measure => simp [RowKit.intOf]; omega
      · have z2 : decide ((us.length : Int) ≤ (k : Int)) = true := by simp; omega
        have HR : Hid (lex cmpW ws us = 1) := by
          show _ = _
          rw [HL.out, drop_getD ws k hlw, List.drop_of_length_le (by omega : us.length ≤ k)]; rfl
        generalize ws.getD k [] = xx at *
        go_wp2_with fail
        go_ret
        exact ⟨ret_int HR.out.symm, hB⟩
    · have z1 : decide ((k : Int) < (ws.length : Int)) = false := by simp; omega
      by_cases hlu : k < us.length
      · have z2 : decide ((ws.length : Int) < (us.length : Int)) = true := by simp; omega
        have HR : Hid (lex cmpW ws us = -1) := by
          show _ = _
          rw [HL.out, List.drop_of_length_le (by omega : ws.length ≤ k), drop_getD us k hlu]; rfl
        go_wp2_with fail
        go_ret
        exact ⟨ret_int HR.out.symm, hB⟩
      · have z2 : decide ((ws.length : Int) < (us.length : Int)) = false := by simp; omega
        have HR : Hid (lex cmpW ws us = 0) := by
          show _ = _
          rw [HL.out, List.drop_of_length_le (by omega : ws.length ≤ k), List.drop_of_length_le (by omega : us.length ≤ k)]; rfl
        go_wp2_with fail
        go_ret
        exact ⟨ret_int HR.out.symm, hB⟩

end Go.Proofs.YthihnpjbdjmbhaaGreatDoor

namespace Go.Proofs.YthihnpjbdjmbhaaGreatDoor
set_option linter.unusedSimpArgs false
set_option linter.unusedVariables false
open Go.RowKit Go.Vr Go.Sort Go.Tx Go.Lib
attribute [local go_sem] setCellDrewN allocDrewN

theorem regrown_below {w w1 : World} (h : ∃ q : Regrown, w1 = grow (redrawn w q.d) q.os) : Below w.heap.size w w1 := by
  obtain ⟨q, rfl⟩ := h; exact below_regrown _ _ _
theorem or3d (x y z : Int) (w : World) : Calls Tryz.prog 60 #[.slice (some ⟨w.heap.size, 0, none⟩) 3 3] (w.alloc (.cells #[.int .i64 x, .int .i64 y, .int .i64 z] 3)).drew fun e w' => e = .returned (.int .i64 (seq x (seq y z))) ∧ Below w.heap.size w w' :=
  (or3 x y z w.drew).mono fun _ _ h => ⟨h.1, ((Below.refl _ _).drew).trans h.2⟩
theorem seq_three {x y z : Int} (t : Int) (h : ¬ (x = 0 ∧ y = 0 ∧ z = 0)) : seq x (seq y (seq z t)) = seq x (seq y z) := by
  unfold seq
  by_cases h1 : x = 0
  · by_cases h2 : y = 0
    · have h3 : z ≠ 0 := fun e => h ⟨h1, h2, e⟩
      simp [h1, h2, h3]
    · simp [h1, h2]
  · simp [h1]

set_option maxHeartbeats 4000000 in
set_option maxRecDepth 100000 in
theorem cmp_parts (a b c a' b' c' : Int) (p p' : ByteArray) (w : World) (hd : ¬ (a = a' ∧ b = b' ∧ c = c')) :
    Calls Tryz.prog 61 #[ver a b c p, ver a' b' c' p'] w fun e w' => e = .returned (.int .i64 (cmpV ⟨a, b, c, p⟩ ⟨a', b', c', p'⟩)) ∧ Below w.heap.size w w' := by
  have hB0 : Below w.heap.size w ((w.alloc (.cells #[.int .i64 a, .int .i64 b, .int .i64 c, .string p] 37)).alloc (.cells #[.int .i64 a', .int .i64 b', .int .i64 c', .string p'] 37)) := ((Below.refl _ _).alloc (Nat.le_refl _) _).alloc (by simp) _
  have c0 : ((w.alloc (.cells #[.int .i64 a, .int .i64 b, .int .i64 c, .string p] 37)).alloc (.cells #[.int .i64 a', .int .i64 b', .int .i64 c', .string p'] 37)).cell? ⟨w.heap.size, 0, none⟩ = some (.int .i64 a) := by simp [go_sem]
  have c1 : ((w.alloc (.cells #[.int .i64 a, .int .i64 b, .int .i64 c, .string p] 37)).alloc (.cells #[.int .i64 a', .int .i64 b', .int .i64 c', .string p'] 37)).cell? ⟨w.heap.size, 1, none⟩ = some (.int .i64 b) := by simp [go_sem]
  have c2 : ((w.alloc (.cells #[.int .i64 a, .int .i64 b, .int .i64 c, .string p] 37)).alloc (.cells #[.int .i64 a', .int .i64 b', .int .i64 c', .string p'] 37)).cell? ⟨w.heap.size, 2, none⟩ = some (.int .i64 c) := by simp [go_sem]
  have c3 : ((w.alloc (.cells #[.int .i64 a, .int .i64 b, .int .i64 c, .string p] 37)).alloc (.cells #[.int .i64 a', .int .i64 b', .int .i64 c', .string p'] 37)).cell? ⟨w.heap.size, 3, none⟩ = some (.string p) := by simp [go_sem]
  have e0 : ((w.alloc (.cells #[.int .i64 a, .int .i64 b, .int .i64 c, .string p] 37)).alloc (.cells #[.int .i64 a', .int .i64 b', .int .i64 c', .string p'] 37)).cell? ⟨w.heap.size + 1, 0, none⟩ = some (.int .i64 a') := by simp [go_sem]
  have e1 : ((w.alloc (.cells #[.int .i64 a, .int .i64 b, .int .i64 c, .string p] 37)).alloc (.cells #[.int .i64 a', .int .i64 b', .int .i64 c', .string p'] 37)).cell? ⟨w.heap.size + 1, 1, none⟩ = some (.int .i64 b') := by simp [go_sem]
  have e2 : ((w.alloc (.cells #[.int .i64 a, .int .i64 b, .int .i64 c, .string p] 37)).alloc (.cells #[.int .i64 a', .int .i64 b', .int .i64 c', .string p'] 37)).cell? ⟨w.heap.size + 1, 2, none⟩ = some (.int .i64 c') := by simp [go_sem]
  have e3 : ((w.alloc (.cells #[.int .i64 a, .int .i64 b, .int .i64 c, .string p] 37)).alloc (.cells #[.int .i64 a', .int .i64 b', .int .i64 c', .string p'] 37)).cell? ⟨w.heap.size + 1, 3, none⟩ = some (.string p') := by simp [go_sem]
  have HX : Hid (cmpV ⟨a, b, c, p⟩ ⟨a', b', c', p'⟩ = seq (compareInt a a') (seq (compareInt b b') (compareInt c c'))) := seq_three _ (fun h => hd ⟨(ord_int.eq _ _).1 h.1, (ord_int.eq _ _).1 h.2.1, (ord_int.eq _ _).1 h.2.2⟩)
  have kc0 := cell_regrown c0
  have kc1 := cell_regrown c1
  have kc2 := cell_regrown c2
  have kc3 := cell_regrown c3
  have ke0 := cell_regrown e0
  have ke1 := cell_regrown e1
  have ke2 := cell_regrown e2
  have ke3 := cell_regrown e3
  have FA : Hid (∀ d os, Calls Tryz.prog 82 #[ver a b c p] (grow (redrawn ((w.alloc (.cells #[.int .i64 a, .int .i64 b, .int .i64 c, .string p] 37)).alloc (.cells #[.int .i64 a', .int .i64 b', .int .i64 c', .string p'] 37)) d) os) fun e w'' => e = .returned (ver a b c ⟨#[]⟩) ∧ ∃ q : Regrown, w'' = grow (redrawn ((w.alloc (.cells #[.int .i64 a, .int .i64 b, .int .i64 c, .string p] 37)).alloc (.cells #[.int .i64 a', .int .i64 b', .int .i64 c', .string p'] 37)) q.d) q.os) := fun d os => Calls.regrown_of (final_any a b c p _)
  have FB : Hid (∀ d os, Calls Tryz.prog 82 #[ver a' b' c' p'] (grow (redrawn ((w.alloc (.cells #[.int .i64 a, .int .i64 b, .int .i64 c, .string p] 37)).alloc (.cells #[.int .i64 a', .int .i64 b', .int .i64 c', .string p'] 37)) d) os) fun e w'' => e = .returned (ver a' b' c' ⟨#[]⟩) ∧ ∃ q : Regrown, w'' = grow (redrawn ((w.alloc (.cells #[.int .i64 a, .int .i64 b, .int .i64 c, .string p] 37)).alloc (.cells #[.int .i64 a', .int .i64 b', .int .i64 c', .string p'] 37)) q.d) q.os) := fun d os => Calls.regrown_of (final_any a' b' c' p' _)
  have key : ∀ (H : Hid (cmpV ⟨a, b, c, p⟩ ⟨a', b', c', p'⟩ = seq (compareInt a a') (seq (compareInt b b') (compareInt c c')))), (¬ a = a') ∨ (a = a' ∧ ¬ b = b') ∨ (a = a' ∧ b = b' ∧ ¬ c = c') := by
    intro _
    by_cases q1 : a = a'
    · by_cases q2 : b = b'
      · exact .inr (.inr ⟨q1, q2, fun q3 => hd ⟨q1, q2, q3⟩⟩)
      · exact .inr (.inl ⟨q1, q2⟩)
    · exact .inl q1
  have hk := key HX
  clear key hd
  rcases hk with q1 | ⟨q1, q2⟩ | ⟨q1, q2, q3⟩
  · skip
    go_enter Tryz.func61, Tryz.ntmps61
    go_wp2_with fail
    refine wp_region_quiet_below mixed (by kernel_rfl) ?_
    quiet_step (fail)
    quiet_step (exact FA.out _ _)
    quiet_step (fail)
    quiet_step (exact FB.out _ _)
    quiet_step (fail)
    refine wpQuiet_nil ?_
    intro w1 hw1
    have r1 := regrown_below hw1
    have hB1 := hB0.trans (r1.mono (by simp; omega))
    have n0 := cellLater r1 c0
    have n1 := cellLater r1 c1
    have n2 := cellLater r1 c2
    have o0 := cellLater r1 e0
    have o1 := cellLater r1 e1
    have o2 := cellLater r1 e2
    clear c0 c1 c2 c3 e0 e1 e2 e3 kc0 kc1 kc2 kc3 ke0 ke1 ke2 ke3 FA FB
    clear hw1 r1 hB0
    have x0 := World.new_ne w1 ⟨w.heap.size, 0, none⟩ n0
    have x1 := World.new_ne w1 ⟨w.heap.size, 1, none⟩ n1
    have x2 := World.new_ne w1 ⟨w.heap.size, 2, none⟩ n2
    have x3 := World.new_ne w1 ⟨w.heap.size + 1, 0, none⟩ o0
    have x4 := World.new_ne w1 ⟨w.heap.size + 1, 1, none⟩ o1
    have x5 := World.new_ne w1 ⟨w.heap.size + 1, 2, none⟩ o2
    go_wp2_with fail
    go_region_held3 (fun w' => w'.cell? ⟨w.heap.size, 0, none⟩ = some (.int .i64 a) ∧ w'.cell? ⟨w.heap.size, 1, none⟩ = some (.int .i64 b) ∧ w'.cell? ⟨w.heap.size, 2, none⟩ = some (.int .i64 c) ∧ w'.cell? ⟨w.heap.size + 1, 0, none⟩ = some (.int .i64 a') ∧ w'.cell? ⟨w.heap.size + 1, 1, none⟩ = some (.int .i64 b') ∧ w'.cell? ⟨w.heap.size + 1, 2, none⟩ = some (.int .i64 c')) (first | go_keep | assumption) (first
      | (go_at_call 83; refine (cmpInt_any _ _ _).mono ?_; rintro e w' ⟨rfl, rfl⟩)
      | (go_at_call 60; refine (or3d _ _ _ _).mono ?_; rintro e w2 ⟨rfl, b3⟩; have y0 := cellLater b3 n0; have y1 := cellLater b3 n1; have y2 := cellLater b3 n2; have y3 := cellLater b3 o0; have y4 := cellLater b3 o1; have y5 := cellLater b3 o2))
    rename_i hHeld
    clear hHeld
    go_wp2_with fail
    go_ret
    exact ⟨ret_int HX.out.symm, step hB1 b3⟩
  · subst q1
    go_enter Tryz.func61, Tryz.ntmps61
    go_wp2_with fail
    refine wp_region_quiet_below mixed (by kernel_rfl) ?_
    quiet_step (fail)
    quiet_step (exact FA.out _ _)
    quiet_step (fail)
    quiet_step (exact FB.out _ _)
    quiet_step (fail)
    refine wpQuiet_nil ?_
    intro w1 hw1
    have r1 := regrown_below hw1
    have hB1 := hB0.trans (r1.mono (by simp; omega))
    have n0 := cellLater r1 c0
    have n1 := cellLater r1 c1
    have n2 := cellLater r1 c2
    have o0 := cellLater r1 e0
    have o1 := cellLater r1 e1
    have o2 := cellLater r1 e2
    clear c0 c1 c2 c3 e0 e1 e2 e3 kc0 kc1 kc2 kc3 ke0 ke1 ke2 ke3 FA FB
    clear hw1 r1 hB0
    have x0 := World.new_ne w1 ⟨w.heap.size, 0, none⟩ n0
    have x1 := World.new_ne w1 ⟨w.heap.size, 1, none⟩ n1
    have x2 := World.new_ne w1 ⟨w.heap.size, 2, none⟩ n2
    have x3 := World.new_ne w1 ⟨w.heap.size + 1, 0, none⟩ o0
    have x4 := World.new_ne w1 ⟨w.heap.size + 1, 1, none⟩ o1
    have x5 := World.new_ne w1 ⟨w.heap.size + 1, 2, none⟩ o2
    go_wp2_with fail
    go_region_held3 (fun w' => w'.cell? ⟨w.heap.size, 0, none⟩ = some (.int .i64 a) ∧ w'.cell? ⟨w.heap.size, 1, none⟩ = some (.int .i64 b) ∧ w'.cell? ⟨w.heap.size, 2, none⟩ = some (.int .i64 c) ∧ w'.cell? ⟨w.heap.size + 1, 0, none⟩ = some (.int .i64 a) ∧ w'.cell? ⟨w.heap.size + 1, 1, none⟩ = some (.int .i64 b') ∧ w'.cell? ⟨w.heap.size + 1, 2, none⟩ = some (.int .i64 c')) (first | go_keep | assumption) (first
      | (go_at_call 83; refine (cmpInt_any _ _ _).mono ?_; rintro e w' ⟨rfl, rfl⟩)
      | (go_at_call 60; refine (or3d _ _ _ _).mono ?_; rintro e w2 ⟨rfl, b3⟩; have y0 := cellLater b3 n0; have y1 := cellLater b3 n1; have y2 := cellLater b3 n2; have y3 := cellLater b3 o0; have y4 := cellLater b3 o1; have y5 := cellLater b3 o2))
    rename_i hHeld
    clear hHeld
    go_wp2_with fail
    go_ret
    exact ⟨ret_int HX.out.symm, step hB1 b3⟩
  · subst q1; subst q2
    go_enter Tryz.func61, Tryz.ntmps61
    go_wp2_with fail
    refine wp_region_quiet_below mixed (by kernel_rfl) ?_
    quiet_step (fail)
    quiet_step (exact FA.out _ _)
    quiet_step (fail)
    quiet_step (exact FB.out _ _)
    quiet_step (fail)
    refine wpQuiet_nil ?_
    intro w1 hw1
    have r1 := regrown_below hw1
    have hB1 := hB0.trans (r1.mono (by simp; omega))
    have n0 := cellLater r1 c0
    have n1 := cellLater r1 c1
    have n2 := cellLater r1 c2
    have o0 := cellLater r1 e0
    have o1 := cellLater r1 e1
    have o2 := cellLater r1 e2
    clear c0 c1 c2 c3 e0 e1 e2 e3 kc0 kc1 kc2 kc3 ke0 ke1 ke2 ke3 FA FB
    clear hw1 r1 hB0
    have x0 := World.new_ne w1 ⟨w.heap.size, 0, none⟩ n0
    have x1 := World.new_ne w1 ⟨w.heap.size, 1, none⟩ n1
    have x2 := World.new_ne w1 ⟨w.heap.size, 2, none⟩ n2
    have x3 := World.new_ne w1 ⟨w.heap.size + 1, 0, none⟩ o0
    have x4 := World.new_ne w1 ⟨w.heap.size + 1, 1, none⟩ o1
    have x5 := World.new_ne w1 ⟨w.heap.size + 1, 2, none⟩ o2
    go_wp2_with fail
    go_region_held3 (fun w' => w'.cell? ⟨w.heap.size, 0, none⟩ = some (.int .i64 a) ∧ w'.cell? ⟨w.heap.size, 1, none⟩ = some (.int .i64 b) ∧ w'.cell? ⟨w.heap.size, 2, none⟩ = some (.int .i64 c) ∧ w'.cell? ⟨w.heap.size + 1, 0, none⟩ = some (.int .i64 a) ∧ w'.cell? ⟨w.heap.size + 1, 1, none⟩ = some (.int .i64 b) ∧ w'.cell? ⟨w.heap.size + 1, 2, none⟩ = some (.int .i64 c')) (first | go_keep | assumption) (first
      | (go_at_call 83; refine (cmpInt_any _ _ _).mono ?_; rintro e w' ⟨rfl, rfl⟩)
      | (go_at_call 60; refine (or3d _ _ _ _).mono ?_; rintro e w2 ⟨rfl, b3⟩; have y0 := cellLater b3 n0; have y1 := cellLater b3 n1; have y2 := cellLater b3 n2; have y3 := cellLater b3 o0; have y4 := cellLater b3 o1; have y5 := cellLater b3 o2))
    rename_i hHeld
    clear hHeld
    go_wp2_with fail
    go_ret
    exact ⟨ret_int HX.out.symm, step hB1 b3⟩

end Go.Proofs.YthihnpjbdjmbhaaGreatDoor

namespace Go.Proofs.YthihnpjbdjmbhaaGreatDoor
set_option linter.unusedSimpArgs false
set_option linter.unusedVariables false
open Go.RowKit Go.Vr Go.Sort Go.Tx Go.Lib
attribute [local go_sem] setCellDrewN allocDrewN

theorem words_full {p : Bs} (h : preOk p = true) (hp : p ≠ []) : ∀ x ∈ words p, x.length ≠ 0 ∧ x.length ≤ 40 := by
  intro x hx
  unfold preOk at h
  simp only [Bool.and_eq_true, decide_eq_true_eq, Bool.or_eq_true, List.isEmpty_iff] at h
  have hl := words_len p x hx
  have := h.2.resolve_left hp
  rw [List.all_eq_true] at this
  have := this x hx
  unfold wordOk at this
  simp only [Bool.and_eq_true] at this
  refine ⟨fun e => ?_, by omega⟩
  have e2 := List.eq_nil_of_length_eq_zero e
  rw [e2] at this
  simp at this

set_option maxHeartbeats 400000 in
theorem cmp_same2 (a b c : Int) (p p' : ByteArray) (w : World) (hd : p = p') :
    Calls Tryz.prog 61 #[ver a b c p, ver a b c p'] w fun e w' => e = .returned (.int .i64 (cmpV ⟨a, b, c, p⟩ ⟨a, b, c, p'⟩)) ∧ Below w.heap.size w w' := by
  subst hd
  have HX : Hid (cmpV ⟨a, b, c, p⟩ ⟨a, b, c, p⟩ = 0) := ord_ver.refl _
  go_enter Tryz.func61, Tryz.ntmps61
  go_wp2_with fail
  go_ret
  exact ⟨ret_int HX.out.symm, ((Below.refl _ _).alloc (Nat.le_refl _) _).alloc (by simp) _⟩

set_option maxHeartbeats 4000000 in
set_option maxRecDepth 100000 in
theorem cmp_pres (a b c : Int) (p p' : ByteArray) (w : World) (hd : ¬ p.toList = p'.toList) (hv : preOk p.data.toList = true) (hu : preOk p'.data.toList = true) (he : Env w) :
    Calls Tryz.prog 61 #[ver a b c p, ver a b c p'] w fun e w' => e = .returned (.int .i64 (cmpV ⟨a, b, c, p⟩ ⟨a, b, c, p'⟩)) ∧ Below w.heap.size w w' := by
  have hB0 : Below w.heap.size w ((w.alloc (.cells #[.int .i64 a, .int .i64 b, .int .i64 c, .string p] 37)).alloc (.cells #[.int .i64 a, .int .i64 b, .int .i64 c, .string p'] 37)) := ((Below.refl _ _).alloc (Nat.le_refl _) _).alloc (by simp) _
  have c0 : ((w.alloc (.cells #[.int .i64 a, .int .i64 b, .int .i64 c, .string p] 37)).alloc (.cells #[.int .i64 a, .int .i64 b, .int .i64 c, .string p'] 37)).cell? ⟨w.heap.size, 0, none⟩ = some (.int .i64 a) := by simp [go_sem]
  have c1 : ((w.alloc (.cells #[.int .i64 a, .int .i64 b, .int .i64 c, .string p] 37)).alloc (.cells #[.int .i64 a, .int .i64 b, .int .i64 c, .string p'] 37)).cell? ⟨w.heap.size, 1, none⟩ = some (.int .i64 b) := by simp [go_sem]
  have c2 : ((w.alloc (.cells #[.int .i64 a, .int .i64 b, .int .i64 c, .string p] 37)).alloc (.cells #[.int .i64 a, .int .i64 b, .int .i64 c, .string p'] 37)).cell? ⟨w.heap.size, 2, none⟩ = some (.int .i64 c) := by simp [go_sem]
  have c3 : ((w.alloc (.cells #[.int .i64 a, .int .i64 b, .int .i64 c, .string p] 37)).alloc (.cells #[.int .i64 a, .int .i64 b, .int .i64 c, .string p'] 37)).cell? ⟨w.heap.size, 3, none⟩ = some (.string p) := by simp [go_sem]
  have e0 : ((w.alloc (.cells #[.int .i64 a, .int .i64 b, .int .i64 c, .string p] 37)).alloc (.cells #[.int .i64 a, .int .i64 b, .int .i64 c, .string p'] 37)).cell? ⟨w.heap.size + 1, 0, none⟩ = some (.int .i64 a) := by simp [go_sem]
  have e1 : ((w.alloc (.cells #[.int .i64 a, .int .i64 b, .int .i64 c, .string p] 37)).alloc (.cells #[.int .i64 a, .int .i64 b, .int .i64 c, .string p'] 37)).cell? ⟨w.heap.size + 1, 1, none⟩ = some (.int .i64 b) := by simp [go_sem]
  have e2 : ((w.alloc (.cells #[.int .i64 a, .int .i64 b, .int .i64 c, .string p] 37)).alloc (.cells #[.int .i64 a, .int .i64 b, .int .i64 c, .string p'] 37)).cell? ⟨w.heap.size + 1, 2, none⟩ = some (.int .i64 c) := by simp [go_sem]
  have e3 : ((w.alloc (.cells #[.int .i64 a, .int .i64 b, .int .i64 c, .string p] 37)).alloc (.cells #[.int .i64 a, .int .i64 b, .int .i64 c, .string p'] 37)).cell? ⟨w.heap.size + 1, 3, none⟩ = some (.string p') := by simp [go_sem]
  have HX : Hid (cmpV ⟨a, b, c, p⟩ ⟨a, b, c, p'⟩ = cmpP p.data.toList p'.data.toList) := by
    show seq (compareInt a a) (seq (compareInt b b) (seq (compareInt c c) _)) = _
    rw [ord_int.refl, ord_int.refl, ord_int.refl]; rfl
  have HV := hide hv
  have HU := hide hu
  have HE := hide he
  clear hv hu he
  have kc0 := cell_regrown c0
  have kc1 := cell_regrown c1
  have kc2 := cell_regrown c2
  have kc3 := cell_regrown c3
  have ke0 := cell_regrown e0
  have ke1 := cell_regrown e1
  have ke2 := cell_regrown e2
  have ke3 := cell_regrown e3
  have FA : Hid (∀ d os, Calls Tryz.prog 82 #[ver a b c p] (grow (redrawn ((w.alloc (.cells #[.int .i64 a, .int .i64 b, .int .i64 c, .string p] 37)).alloc (.cells #[.int .i64 a, .int .i64 b, .int .i64 c, .string p'] 37)) d) os) fun e w'' => e = .returned (ver a b c ⟨#[]⟩) ∧ ∃ q : Regrown, w'' = grow (redrawn ((w.alloc (.cells #[.int .i64 a, .int .i64 b, .int .i64 c, .string p] 37)).alloc (.cells #[.int .i64 a, .int .i64 b, .int .i64 c, .string p'] 37)) q.d) q.os) := fun d os => Calls.regrown_of (final_any a b c p _)
  have FB : Hid (∀ d os, Calls Tryz.prog 82 #[ver a b c p'] (grow (redrawn ((w.alloc (.cells #[.int .i64 a, .int .i64 b, .int .i64 c, .string p] 37)).alloc (.cells #[.int .i64 a, .int .i64 b, .int .i64 c, .string p'] 37)) d) os) fun e w'' => e = .returned (ver a b c ⟨#[]⟩) ∧ ∃ q : Regrown, w'' = grow (redrawn ((w.alloc (.cells #[.int .i64 a, .int .i64 b, .int .i64 c, .string p] 37)).alloc (.cells #[.int .i64 a, .int .i64 b, .int .i64 c, .string p'] 37)) q.d) q.os) := fun d os => Calls.regrown_of (final_any a b c p' _)
  go_enter Tryz.func61, Tryz.ntmps61
  go_wp2_with fail
  refine wp_region_quiet_below mixed (by kernel_rfl) ?_
  quiet_step (fail)
  quiet_step (exact FA.out _ _)
  quiet_step (fail)
  quiet_step (exact FB.out _ _)
  quiet_step (fail)
  refine wpQuiet_nil ?_
  intro w1 hw1
  have r1 := regrown_below hw1
  have hB1 := hB0.trans (r1.mono (by simp; omega))
  have n0 := cellLater r1 c0
  have n1 := cellLater r1 c1
  have n2 := cellLater r1 c2
  have n3 := cellLater r1 c3
  have o0 := cellLater r1 e0
  have o1 := cellLater r1 e1
  have o2 := cellLater r1 e2
  have o3 := cellLater r1 e3
  clear hw1 r1 hB0 c0 c1 c2 c3 e0 e1 e2 e3 kc0 kc1 kc2 kc3 ke0 ke1 ke2 ke3 FA FB
  have kn0 := cell_regrown n0
  have kn1 := cell_regrown n1
  have kn2 := cell_regrown n2
  have kn3 := cell_regrown n3
  have FC : Hid (∀ d os, Calls Tryz.prog 82 #[ver a b c p] (grow (redrawn w1 d) os) fun e w'' => e = .returned (ver a b c ⟨#[]⟩) ∧ ∃ q : Regrown, w'' = grow (redrawn w1 q.d) q.os) := fun d os => Calls.regrown_of (final_any a b c p _)
  by_cases h0 : p.size = 0
  · have he1 : p.toList.isEmpty = true := by rw [empty_eq]; simpa using h0
    have he2 : p.toList = [] := by simpa using he1
    have HP : Hid (cmpP p.data.toList p'.data.toList = 1) := by
      show cmpP _ _ = 1
      rw [toList_data] at he2
      have hne : p'.data.toList ≠ [] := fun e => hd (by rw [toList_data, toList_data, he2, e])
      unfold cmpP none1
      rw [if_pos he2, if_neg hne]; rfl
    clear h0
    go_wp2_with fail
    refine wp_region_quiet_below mixed (by kernel_rfl) ?_
    quiet_step (fail)
    quiet_step (fail)
    quiet_step (exact FC.out _ _)
    quiet_step (fail)
    refine wpQuiet_nil ?_
    intro w2 hw2
    have r2 := regrown_below hw2
    go_wp2_with fail
    go_ret
    exact ⟨ret_int (by rw [HX.out, HP.out]), step hB1 r2⟩
  · have he1 : p.toList.isEmpty = false := by rw [empty_eq]; simpa using h0
    have he2 : ¬ p.toList = [] := by intro e; rw [e] at he1; cases he1
    have hne : p.data.toList ≠ [] := by rw [← toList_data]; exact he2
    have HNE := hide hne
    clear hne h0
    go_wp2_with fail
    refine wp_region_quiet_below mixed (by kernel_rfl) ?_
    quiet_step (fail)
    quiet_step (fail)
    quiet_step (exact FC.out _ _)
    quiet_step (fail)
    refine wpQuiet_nil ?_
    intro w2 hw2
    have r2 := regrown_below hw2
    have hB2 := step hB1 r2
    have s3 := cellLater r2 n3
    have t0 := cellLater r2 o0
    have t1 := cellLater r2 o1
    have t2 := cellLater r2 o2
    have t3 := cellLater r2 o3
    clear hw2 r2 n0 n1 n2 n3 o0 o1 o2 o3 kn0 kn1 kn2 kn3 FC
    have kt0 := cell_regrown t0
    have kt1 := cell_regrown t1
    have kt2 := cell_regrown t2
    have kt3 := cell_regrown t3
    have FD : Hid (∀ d os, Calls Tryz.prog 82 #[ver a b c p'] (grow (redrawn w2 d) os) fun e w'' => e = .returned (ver a b c ⟨#[]⟩) ∧ ∃ q : Regrown, w'' = grow (redrawn w2 q.d) q.os) := fun d os => Calls.regrown_of (final_any a b c p' _)
    by_cases h0 : p'.size = 0
    · have he3 : p'.toList.isEmpty = true := by rw [empty_eq]; simpa using h0
      have he4 : p'.toList = [] := by simpa using he3
      have HP : Hid (cmpP p.data.toList p'.data.toList = -1) := by
        show cmpP _ _ = -1
        rw [toList_data] at he4
        unfold cmpP none1
        rw [if_neg HNE.out, if_pos he4]; rfl
      clear h0
      go_wp2_with fail
      refine wp_region_quiet_below mixed (by kernel_rfl) ?_
      quiet_step (fail)
      quiet_step (fail)
      quiet_step (exact FD.out _ _)
      quiet_step (fail)
      refine wpQuiet_nil ?_
      intro w3 hw3
      have r3 := regrown_below hw3
      go_wp2_with fail
      go_ret
      exact ⟨ret_int (by rw [HX.out, HP.out]), step hB2 r3⟩
    · have he3 : p'.toList.isEmpty = false := by rw [empty_eq]; simpa using h0
      have he4 : ¬ p'.toList = [] := by intro e; rw [e] at he3; cases he3
      have hne2 : p'.data.toList ≠ [] := by rw [← toList_data]; exact he4
      have HP : Hid (cmpP p.data.toList p'.data.toList = lex cmpW (words p.data.toList) (words p'.data.toList)) := by
        show cmpP _ _ = _
        unfold cmpP none1
        rw [if_neg HNE.out, if_neg hne2]; rfl
      have q1 := words_full HV.out HNE.out
      have q2 := words_full HU.out hne2
      clear h0 hne2
      go_wp2_with fail
      refine wp_region_quiet_below mixed (by kernel_rfl) ?_
      quiet_step (fail)
      quiet_step (fail)
      quiet_step (exact FD.out _ _)
      quiet_step (fail)
      refine wpQuiet_nil ?_
      intro w3 hw3
      have r3 := regrown_below hw3
      have hB3 := step hB2 r3
      have E3 := hide (HE.out.later hB3)
      have u3 := cellLater r3 s3
      have v3 := cellLater r3 t3
      have hp1 : p.size ≤ 40 := by have := HV.out; rw [preOk_eq] at this; simp only [Bool.and_eq_true, decide_eq_true_eq] at this; exact this.1
      have hp2 : p'.size ≤ 40 := by have := HU.out; rw [preOk_eq] at this; simp only [Bool.and_eq_true, decide_eq_true_eq] at this; exact this.1
      have hcn1 := words_count p.data.toList
      have hcn2 := words_count p'.data.toList
      have hne1 := words_ne p.data.toList
      have hne2 := words_ne p'.data.toList
      rw [len_eq] at hcn1 hcn2
      clear hw3 r3 s3 t0 t1 t2 t3 kt0 kt1 kt2 kt3 FD hB1 hB2 HE HV HU HNE he1 he2 he3 he4 hd
      go_wp2_with fail
      go_region_held3 (fun w' => w'.cell? ⟨w.heap.size, 3, none⟩ = some (.string p) ∧ w'.cell? ⟨w.heap.size + 1, 3, none⟩ = some (.string p')) (first | go_keep | assumption) (first
        | (go_at_call_of 85 (Value.string p); refine (vwords_any p _ (by omega) (E3.out.later ((Below.refl _ _).drew))).mono ?_; rintro e w4 ⟨x1, rfl, o1, b4⟩; have a4 := cellLater (a := ⟨w.heap.size, 3, none⟩) (v := .string p) b4 (by first | assumption | (simp [go_sem]; done)); have d4 := cellLater (a := ⟨w.heap.size + 1, 3, none⟩) (v := .string p') b4 (by first | assumption | (simp [go_sem]; done)))
        | (go_at_call_of 85 (Value.string p'); refine (vwords_any p' _ (by omega) ((E3.out.later ((Below.refl _ _).drew)).later b4)).mono ?_; rintro e w5 ⟨x2, rfl, o2, b5⟩; have a5 := cellLater (a := ⟨w.heap.size, 3, none⟩) (v := .string p) b5 (by assumption); have d5 := cellLater (a := ⟨w.heap.size + 1, 3, none⟩) (v := .string p') b5 (by assumption); obtain ⟨g1, k1, rfl, -, hk1, -, hc1⟩ := own_at o1 (List.length_pos_iff.2 hne1); obtain ⟨g2, k2, rfl, -, hk2, -, hc2⟩ := own_at o2 (List.length_pos_iff.2 hne2); have hcf := hide (compareF_any g1 k1 g2 k2 (words p.data.toList) (words p'.data.toList) w5 (fun i hi => cellLater b5 (hc1 i hi)) hc2 (by omega) (by omega) (fun x hx => ⟨(q1 x hx).1, by have := (q1 x hx).2; omega⟩) (fun x hx => ⟨(q2 x hx).1, by have := (q2 x hx).2; omega⟩)); clear hc1 hc2 o1 o2)
        | (go_at_call 84; refine hcf.out.mono ?_; rintro e w6 ⟨rfl, b6⟩; have a6 := cellLater (a := ⟨w.heap.size, 3, none⟩) (v := .string p) b6 (by assumption); have d6 := cellLater (a := ⟨w.heap.size + 1, 3, none⟩) (v := .string p') b6 (by assumption)))
      rename_i hHeld
      clear hHeld
      go_wp2_with fail
      go_ret
      exact ⟨ret_int (by rw [HX.out, HP.out]), step (step (hB3.drew.trans (b4.mono hB3.size)) b5) b6⟩

theorem cmp_any (v u : V) (w : World) (hv : v.ok = true) (hu : u.ok = true) (he : Env w) :
    Calls Tryz.prog 61 #[val v, val u] w fun e w' => e = .returned (.int .i64 (cmpV v u)) ∧ Below w.heap.size w w' := by
  have hv2 := (ok_parts hv).2.2.2
  have hu2 := (ok_parts hu).2.2.2
  obtain ⟨a, b, c, p⟩ := v
  obtain ⟨a', b', c', p'⟩ := u
  by_cases hd : a = a' ∧ b = b' ∧ c = c'
  · obtain ⟨rfl, rfl, rfl⟩ := hd
    by_cases hp : p = p'
    · exact cmp_same2 a b c p p' w hp
    · exact cmp_pres a b c p p' w (fun e => hp (ba_ext (by rw [toList_data, toList_data] at e; exact e))) hv2 hu2 he
  · exact cmp_parts a b c a' b' c' p p' w hd

end Go.Proofs.YthihnpjbdjmbhaaGreatDoor
