/-
  Contract of Cmp.
-/
import Derived.Test.YtninheehoabbbaaGreatDoorU8
namespace Go.Proofs.YtninheehoabbbaaGreatDoor
set_option linter.unusedSimpArgs false
set_option linter.unusedVariables false
open Go.RowKit Go.Vr Go.Sort Go.Tx Go.Lib
attribute [local go_sem] setCellDrewN allocDrewN

theorem regrown_below {w w1 : World} (h : ∃ q : Regrown, w1 = grow (redrawn w q.d) q.os) : Below w.heap.size w w1 := by
  obtain ⟨q, rfl⟩ := h; exact below_regrown _ _ _
theorem or3d (x y z : Int) (w : World) : Calls Tryz.prog 60 #[.slice (some ⟨w.heap.size, 0, none⟩) 3 3] (w.alloc (.cells #[.int .i64 x, .int .i64 y, .int .i64 z] 3)).drew fun e w' => e = .returned (.int .i64 (seq x (seq y z))) ∧ Below w.heap.size w w' :=
  (or3 x y z w.drew).mono fun _ _ h => ⟨h.1, ((Below.refl _ _).drew).trans h.2⟩
theorem seq_three {x y z : Int} (t : Int) (h : ¬ (x = 0 ∧ y = 0 ∧ z = 0)) : seq x (seq y (seq z t)) = seq x (seq y z) := by
  unfold seq
  by_cases h1 : x = 0
  · by_cases h2 : y = 0
    · have h3 : z ≠ 0 := fun e => h ⟨h1, h2, e⟩
      simp [h1, h2, h3]
    · simp [h1, h2]
  · simp [h1]

set_option maxHeartbeats 4000000 in
set_option maxRecDepth 100000 in
theorem cmp_parts (a b c a' b' c' : Int) (p p' : ByteArray) (w : World) (hd : ¬ (a = a' ∧ b = b' ∧ c = c')) :
    Calls Tryz.prog 61 #[ver a b c p, ver a' b' c' p'] w fun e w' => e = .returned (.int .i64 (cmpV ⟨a, b, c, p⟩ ⟨a', b', c', p'⟩)) ∧ Below w.heap.size w w' := by
  have hB0 : Below w.heap.size w ((w.alloc (.cells #[.int .i64 a, .int .i64 b, .int .i64 c, .string p] 37)).alloc (.cells #[.int .i64 a', .int .i64 b', .int .i64 c', .string p'] 37)) := ((Below.refl _ _).alloc (Nat.le_refl _) _).alloc (by simp) _
  have c0 : ((w.alloc (.cells #[.int .i64 a, .int .i64 b, .int .i64 c, .string p] 37)).alloc (.cells #[.int .i64 a', .int .i64 b', .int .i64 c', .string p'] 37)).cell? ⟨w.heap.size, 0, none⟩ = some (.int .i64 a) := by simp [go_sem]
  have c1 : ((w.alloc (.cells #[.int .i64 a, .int .i64 b, .int .i64 c, .string p] 37)).alloc (.cells #[.int .i64 a', .int .i64 b', .int .i64 c', .string p'] 37)).cell? ⟨w.heap.size, 1, none⟩ = some (.int .i64 b) := by simp [go_sem]
  have c2 : ((w.alloc (.cells #[.int .i64 a, .int .i64 b, .int .i64 c, .string p] 37)).alloc (.cells #[.int .i64 a', .int .i64 b', .int .i64 c', .string p'] 37)).cell? ⟨w.heap.size, 2, none⟩ = some (.int .i64 c) := by simp [go_sem]
  have c3 : ((w.alloc (.cells #[.int .i64 a, .int .i64 b, .int .i64 c, .string p] 37)).alloc (.cells #[.int .i64 a', .int .i64 b', .int .i64 c', .string p'] 37)).cell? ⟨w.heap.size, 3, none⟩ = some (.string p) := by simp [go_sem]
  have e0 : ((w.alloc (.cells #[.int .i64 a, .int .i64 b, .int .i64 c, .string p] 37)).alloc (.cells #[.int .i64 a', .int .i64 b', .int .i64 c', .string p'] 37)).cell? ⟨w.heap.size + 1, 0, none⟩ = some (.int .i64 a') := by simp [go_sem]
  have e1 : ((w.alloc (.cells #[.int .i64 a, .int .i64 b, .int .i64 c, .string p] 37)).alloc (.cells #[.int .i64 a', .int .i64 b', .int .i64 c', .string p'] 37)).cell? ⟨w.heap.size + 1, 1, none⟩ = some (.int .i64 b') := by simp [go_sem]
  have e2 : ((w.alloc (.cells #[.int .i64 a, .int .i64 b, .int .i64 c, .string p] 37)).alloc (.cells #[.int .i64 a', .int .i64 b', .int .i64 c', .string p'] 37)).cell? ⟨w.heap.size + 1, 2, none⟩ = some (.int .i64 c') := by simp [go_sem]
  have e3 : ((w.alloc (.cells #[.int .i64 a, .int .i64 b, .int .i64 c, .string p] 37)).alloc (.cells #[.int .i64 a', .int .i64 b', .int .i64 c', .string p'] 37)).cell? ⟨w.heap.size + 1, 3, none⟩ = some (.string p') := by simp [go_sem]
  have HX : Hid (cmpV ⟨a, b, c, p⟩ ⟨a', b', c', p'⟩ = seq (compareInt a a') (seq (compareInt b b') (compareInt c c'))) := seq_three _ (fun h => hd ⟨(ord_int.eq _ _).1 h.1, (ord_int.eq _ _).1 h.2.1, (ord_int.eq _ _).1 h.2.2⟩)
  have kc0 := cell_regrown c0
  have kc1 := cell_regrown c1
  have kc2 := cell_regrown c2
  have kc3 := cell_regrown c3
  have ke0 := cell_regrown e0
  have ke1 := cell_regrown e1
  have ke2 := cell_regrown e2
  have ke3 := cell_regrown e3
  have FA : Hid (∀ d os, Calls Tryz.prog 82 #[ver a b c p] (grow (redrawn ((w.alloc (.cells #[.int .i64 a, .int .i64 b, .int .i64 c, .string p] 37)).alloc (.cells #[.int .i64 a', .int .i64 b', .int .i64 c', .string p'] 37)) d) os) fun e w'' => e = .returned (ver a b c ⟨#[]⟩) ∧ ∃ q : Regrown, w'' = grow (redrawn ((w.alloc (.cells #[.int .i64 a, .int .i64 b, .int .i64 c, .string p] 37)).alloc (.cells #[.int .i64 a', .int .i64 b', .int .i64 c', .string p'] 37)) q.d) q.os) := fun d os => Calls.regrown_of (final_any a b c p _)
  have FB : Hid (∀ d os, Calls Tryz.prog 82 #[ver a' b' c' p'] (grow (redrawn ((w.alloc (.cells #[.int .i64 a, .int .i64 b, .int .i64 c, .string p] 37)).alloc (.cells #[.int .i64 a', .int .i64 b', .int .i64 c', .string p'] 37)) d) os) fun e w'' => e = .returned (ver a' b' c' ⟨#[]⟩) ∧ ∃ q : Regrown, w'' = grow (redrawn ((w.alloc (.cells #[.int .i64 a, .int .i64 b, .int .i64 c, .string p] 37)).alloc (.cells #[.int .i64 a', .int .i64 b', .int .i64 c', .string p'] 37)) q.d) q.os) := fun d os => Calls.regrown_of (final_any a' b' c' p' _)
  have key : ∀ (H : Hid (cmpV ⟨a, b, c, p⟩ ⟨a', b', c', p'⟩ = seq (compareInt a a') (seq (compareInt b b') (compareInt c c')))), (¬ a = a') ∨ (a = a' ∧ ¬ b = b') ∨ (a = a' ∧ b = b' ∧ ¬ c = c') := by
    intro _
    by_cases q1 : a = a'
    · by_cases q2 : b = b'
      · exact .inr (.inr ⟨q1, q2, fun q3 => hd ⟨q1, q2, q3⟩⟩)
      · exact .inr (.inl ⟨q1, q2⟩)
    · exact .inl q1
  have hk := key HX
  clear key hd
  rcases hk with q1 | ⟨q1, q2⟩ | ⟨q1, q2, q3⟩
  · skip
    go_enter Tryz.func61, Tryz.ntmps61
    go_wp2_with fail
    refine wp_region_quiet_below mixed (by kernel_rfl) ?_
    quiet_step (fail)
    quiet_step (exact FA.out _ _)
    quiet_step (fail)
    quiet_step (exact FB.out _ _)
    quiet_step (fail)
    refine wpQuiet_nil ?_
    intro w1 hw1
    have r1 := regrown_below hw1
    have hB1 := hB0.trans (r1.mono (by simp; omega))
    have n0 := cellLater r1 c0
    have n1 := cellLater r1 c1
    have n2 := cellLater r1 c2
    have o0 := cellLater r1 e0
    have o1 := cellLater r1 e1
    have o2 := cellLater r1 e2
    clear c0 c1 c2 c3 e0 e1 e2 e3 kc0 kc1 kc2 kc3 ke0 ke1 ke2 ke3 FA FB
    clear hw1 r1 hB0
    have x0 := World.new_ne w1 ⟨w.heap.size, 0, none⟩ n0
    have x1 := World.new_ne w1 ⟨w.heap.size, 1, none⟩ n1
    have x2 := World.new_ne w1 ⟨w.heap.size, 2, none⟩ n2
    have x3 := World.new_ne w1 ⟨w.heap.size + 1, 0, none⟩ o0
    have x4 := World.new_ne w1 ⟨w.heap.size + 1, 1, none⟩ o1
    have x5 := World.new_ne w1 ⟨w.heap.size + 1, 2, none⟩ o2
    go_wp2_with fail
    go_region_held3 (fun w' => w'.cell? ⟨w.heap.size, 0, none⟩ = some (.int .i64 a) ∧ w'.cell? ⟨w.heap.size, 1, none⟩ = some (.int .i64 b) ∧ w'.cell? ⟨w.heap.size, 2, none⟩ = some (.int .i64 c) ∧ w'.cell? ⟨w.heap.size + 1, 0, none⟩ = some (.int .i64 a') ∧ w'.cell? ⟨w.heap.size + 1, 1, none⟩ = some (.int .i64 b') ∧ w'.cell? ⟨w.heap.size + 1, 2, none⟩ = some (.int .i64 c')) (first | go_keep | assumption) (first
      | (go_at_call 83; refine (cmpInt_any _ _ _).mono ?_; rintro e w' ⟨rfl, rfl⟩)
      | (go_at_call 60; refine (or3d _ _ _ _).mono ?_; rintro e w2 ⟨rfl, b3⟩; have y0 := cellLater b3 n0; have y1 := cellLater b3 n1; have y2 := cellLater b3 n2; have y3 := cellLater b3 o0; have y4 := cellLater b3 o1; have y5 := cellLater b3 o2))
    rename_i hHeld
    clear hHeld
    go_wp2_with fail
    go_ret
    exact ⟨ret_int HX.out.symm, step hB1 b3⟩
  · subst q1
    go_enter Tryz.func61, Tryz.ntmps61
    go_wp2_with fail
    refine wp_region_quiet_below mixed (by kernel_rfl) ?_
    quiet_step (fail)
    quiet_step (exact FA.out _ _)
    quiet_step (fail)
    quiet_step (exact FB.out _ _)
    quiet_step (fail)
    refine wpQuiet_nil ?_
    intro w1 hw1
    have r1 := regrown_below hw1
    have hB1 := hB0.trans (r1.mono (by simp; omega))
    have n0 := cellLater r1 c0
    have n1 := cellLater r1 c1
    have n2 := cellLater r1 c2
    have o0 := cellLater r1 e0
    have o1 := cellLater r1 e1
    have o2 := cellLater r1 e2
    clear c0 c1 c2 c3 e0 e1 e2 e3 kc0 kc1 kc2 kc3 ke0 ke1 ke2 ke3 FA FB
    clear hw1 r1 hB0
    have x0 := World.new_ne w1 ⟨w.heap.size, 0, none⟩ n0
    have x1 := World.new_ne w1 ⟨w.heap.size, 1, none⟩ n1
    have x2 := World.new_ne w1 ⟨w.heap.size, 2, none⟩ n2
    have x3 := World.new_ne w1 ⟨w.heap.size + 1, 0, none⟩ o0
    have x4 := World.new_ne w1 ⟨w.heap.size + 1, 1, none⟩ o1
    have x5 := World.new_ne w1 ⟨w.heap.size + 1, 2, none⟩ o2
    go_wp2_with fail
    go_region_held3 (fun w' => w'.cell? ⟨w.heap.size, 0, none⟩ = some (.int .i64 a) ∧ w'.cell? ⟨w.heap.size, 1, none⟩ = some (.int .i64 b) ∧ w'.cell? ⟨w.heap.size, 2, none⟩ = some (.int .i64 c) ∧ w'.cell? ⟨w.heap.size + 1, 0, none⟩ = some (.int .i64 a) ∧ w'.cell? ⟨w.heap.size + 1, 1, none⟩ = some (.int .i64 b') ∧ w'.cell? ⟨w.heap.size + 1, 2, none⟩ = some (.int .i64 c')) (first | go_keep | assumption) (first
      | (go_at_call 83; refine (cmpInt_any _ _ _).mono ?_; rintro e w' ⟨rfl, rfl⟩)
      | (go_at_call 60; refine (or3d _ _ _ _).mono ?_; rintro e w2 ⟨rfl, b3⟩; have y0 := cellLater b3 n0; have y1 := cellLater b3 n1; have y2 := cellLater b3 n2; have y3 := cellLater b3 o0; have y4 := cellLater b3 o1; have y5 := cellLater b3 o2))
    rename_i hHeld
    clear hHeld
    go_wp2_with fail
    go_ret
    exact ⟨ret_int HX.out.symm, step hB1 b3⟩
  · subst q1; subst q2
    go_enter Tryz.func61, Tryz.ntmps61
    go_wp2_with fail
    refine wp_region_quiet_below mixed (by kernel_rfl) ?_
    quiet_step (fail)
    quiet_step (exact FA.out _ _)
    quiet_step (fail)
    quiet_step (exact FB.out _ _)
    quiet_step (fail)
    refine wpQuiet_nil ?_
    intro w1 hw1
    have r1 := regrown_below hw1
    have hB1 := hB0.trans (r1.mono (by simp; omega))
    have n0 := cellLater r1 c0
    have n1 := cellLater r1 c1
    have n2 := cellLater r1 c2
    have o0 := cellLater r1 e0
    have o1 := cellLater r1 e1
    have o2 := cellLater r1 e2
    clear c0 c1 c2 c3 e0 e1 e2 e3 kc0 kc1 kc2 kc3 ke0 ke1 ke2 ke3 FA FB
    clear hw1 r1 hB0
    have x0 := World.new_ne w1 ⟨w.heap.size, 0, none⟩ n0
    have x1 := World.new_ne w1 ⟨w.heap.size, 1, none⟩ n1
    have x2 := World.new_ne w1 ⟨w.heap.size, 2, none⟩ n2
    have x3 := World.new_ne w1 ⟨w.heap.size + 1, 0, none⟩ o0
    have x4 := World.new_ne w1 ⟨w.heap.size + 1, 1, none⟩ o1
    have x5 := World.new_ne w1 ⟨w.heap.size + 1, 2, none⟩ o2
    go_wp2_with fail
    go_region_held3 (fun w' => w'.cell? ⟨w.heap.size, 0, none⟩ = some (.int .i64 a) ∧ w'.cell? ⟨w.heap.size, 1, none⟩ = some (.int .i64 b) ∧ w'.cell? ⟨w.heap.size, 2, none⟩ = some (.int .i64 c) ∧ w'.cell? ⟨w.heap.size + 1, 0, none⟩ = some (.int .i64 a) ∧ w'.cell? ⟨w.heap.size + 1, 1, none⟩ = some (.int .i64 b) ∧ w'.cell? ⟨w.heap.size + 1, 2, none⟩ = some (.int .i64 c')) (first | go_keep | assumption) (first
      | (go_at_call 83; refine (cmpInt_any _ _ _).mono ?_; rintro e w' ⟨rfl, rfl⟩)
      | (go_at_call 60; refine (or3d _ _ _ _).mono ?_; rintro e w2 ⟨rfl, b3⟩; have y0 := cellLater b3 n0; have y1 := cellLater b3 n1; have y2 := cellLater b3 n2; have y3 := cellLater b3 o0; have y4 := cellLater b3 o1; have y5 := cellLater b3 o2))
    rename_i hHeld
    clear hHeld
    go_wp2_with fail
    go_ret
    exact ⟨ret_int HX.out.symm, step hB1 b3⟩

end Go.Proofs.YtninheehoabbbaaGreatDoor
