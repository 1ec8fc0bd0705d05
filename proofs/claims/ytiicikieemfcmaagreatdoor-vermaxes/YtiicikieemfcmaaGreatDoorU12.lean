/-
  Contract of behind.
-/
import Derived.Test.YtiicikieemfcmaaGreatDoorU11
import Derived.Test.YtiicikieemfcmaaGreatDoorU6
namespace Go.Proofs.YtiicikieemfcmaaGreatDoor
set_option linter.unusedSimpArgs false
set_option linter.unusedVariables false
open Go.RowKit Go.Vr Go.Sort Go.Tx Go.Lib
attribute [local go_sem] setCellDrewN allocDrewN

/-- What stands behind a version, ending so. -/
def bver (has : Bool) (v : V) (l : ByteArray) : V :=
  if has = true then (if v.p.size = 0 then ⟨v.a, v.b, v.c + 1, str ([48] ++ 46 :: l.data.toList)⟩ else ⟨v.a, v.b, v.c, str (v.p.data.toList ++ 46 :: ([48] ++ 46 :: l.data.toList))⟩) else ⟨0, 0, 0, l⟩
theorem bver_pver (has : Bool) (v : V) (t : Int) (id : Bs) : bver has v (str (stamp t id)) = pver has v t id := by
  unfold bver pver
  cases has with
  | false => rfl
  | true =>
    simp only [if_true]
    have hl := len_eq v.p
    by_cases h : v.p.size = 0
    · have e : v.p.data.toList = [] := List.eq_nil_of_length_eq_zero (by rw [hl]; exact h)
      rw [if_pos h, if_pos e, e]
      rfl
    · have e : ¬ v.p.data.toList = [] := fun e => h (by rw [← hl, e]; rfl)
      rw [if_neg h, if_neg e]
      unfold lead
      simp [e, str_list]

/-- dotted of three, of two, behind a draw. -/
theorem dotted3d (x y z : ByteArray) (w : World) (hx : x.size ≤ 1000) (hy : y.size ≤ 1000) (hz : z.size ≤ 1000) :
    Calls Tryz.prog 34 #[.slice (some ⟨w.heap.size, 0, none⟩) 3 3] (w.alloc (.cells #[.string x, .string y, .string z] 9)).drew fun e w' => e = .returned (.string (str (x.data.toList ++ 46 :: (y.data.toList ++ 46 :: z.data.toList)))) ∧ Below w.heap.size w w' :=
  (dotted3 x y z w.drew hx hy hz).mono fun _ _ h => ⟨h.1, ((Below.refl _ _).drew).trans h.2⟩
theorem dotted2d (x y : ByteArray) (w : World) (hx : x.size ≤ 1000) (hy : y.size ≤ 1000) :
    Calls Tryz.prog 34 #[.slice (some ⟨w.heap.size, 0, none⟩) 2 2] (w.alloc (.cells #[.string x, .string y] 9)).drew fun e w' => e = .returned (.string (str (x.data.toList ++ 46 :: y.data.toList))) ∧ Below w.heap.size w w' :=
  (dotted2 x y w.drew hx hy).mono fun _ _ h => ⟨h.1, ((Below.refl _ _).drew).trans h.2⟩

set_option maxHeartbeats 4000000 in
set_option maxRecDepth 100000 in
theorem behind_any (has : Bool) (v : V) (l : ByteArray) (w : World) (hc : 0 ≤ v.c ∧ v.c ≤ 999999) (hp : v.p.size ≤ 1000) (hl : l.size ≤ 1000) :
    Calls Tryz.prog 57 #[.bool has, val v, .string l] w fun e w' => e = .returned (val (bver has v l)) ∧ Below w.heap.size w w' := by
  obtain ⟨a, b, c, p⟩ := v
  simp only at hc hp
  cases has with
  | false =>
    go_enter Tryz.func57, Tryz.ntmps57
    go_wp2_with fail
    exact bodyPost_ret (v := ver 0 0 0 l) (by simp [results, Tryz.results57, go_sem]) rfl ⟨rfl, ((Below.refl _ _).alloc (Nat.le_refl _) _).alloc (by simp) _⟩
  | true =>
    have hB0 : Below w.heap.size w ((w.alloc (.cells #[.int .i64 a, .int .i64 b, .int .i64 c, .string p] 24)).alloc (.cells #[.int .i64 0, .int .i64 0, .int .i64 0, .string ⟨#[]⟩] 24)) := ((Below.refl _ _).alloc (Nat.le_refl _) _).alloc (by simp) _
    have c0 : ((w.alloc (.cells #[.int .i64 a, .int .i64 b, .int .i64 c, .string p] 24)).alloc (.cells #[.int .i64 0, .int .i64 0, .int .i64 0, .string ⟨#[]⟩] 24)).cell? ⟨w.heap.size, 0, none⟩ = some (.int .i64 a) := by simp [go_sem]
    have c1 : ((w.alloc (.cells #[.int .i64 a, .int .i64 b, .int .i64 c, .string p] 24)).alloc (.cells #[.int .i64 0, .int .i64 0, .int .i64 0, .string ⟨#[]⟩] 24)).cell? ⟨w.heap.size, 1, none⟩ = some (.int .i64 b) := by simp [go_sem]
    have c2 : ((w.alloc (.cells #[.int .i64 a, .int .i64 b, .int .i64 c, .string p] 24)).alloc (.cells #[.int .i64 0, .int .i64 0, .int .i64 0, .string ⟨#[]⟩] 24)).cell? ⟨w.heap.size, 2, none⟩ = some (.int .i64 c) := by simp [go_sem]
    have c3 : ((w.alloc (.cells #[.int .i64 a, .int .i64 b, .int .i64 c, .string p] 24)).alloc (.cells #[.int .i64 0, .int .i64 0, .int .i64 0, .string ⟨#[]⟩] 24)).cell? ⟨w.heap.size, 3, none⟩ = some (.string p) := by simp [go_sem]
    have e0 : ((w.alloc (.cells #[.int .i64 a, .int .i64 b, .int .i64 c, .string p] 24)).alloc (.cells #[.int .i64 0, .int .i64 0, .int .i64 0, .string ⟨#[]⟩] 24)).cell? ⟨w.heap.size + 1, 0, none⟩ = some (.int .i64 0) := by simp [go_sem]
    have e1 : ((w.alloc (.cells #[.int .i64 a, .int .i64 b, .int .i64 c, .string p] 24)).alloc (.cells #[.int .i64 0, .int .i64 0, .int .i64 0, .string ⟨#[]⟩] 24)).cell? ⟨w.heap.size + 1, 1, none⟩ = some (.int .i64 0) := by simp [go_sem]
    have e2 : ((w.alloc (.cells #[.int .i64 a, .int .i64 b, .int .i64 c, .string p] 24)).alloc (.cells #[.int .i64 0, .int .i64 0, .int .i64 0, .string ⟨#[]⟩] 24)).cell? ⟨w.heap.size + 1, 2, none⟩ = some (.int .i64 0) := by simp [go_sem]
    have e3 : ((w.alloc (.cells #[.int .i64 a, .int .i64 b, .int .i64 c, .string p] 24)).alloc (.cells #[.int .i64 0, .int .i64 0, .int .i64 0, .string ⟨#[]⟩] 24)).cell? ⟨w.heap.size + 1, 3, none⟩ = some (.string ⟨#[]⟩) := by simp [go_sem]
    have f0 : ((w.alloc (.cells #[.int .i64 a, .int .i64 b, .int .i64 c, .string p] 24)).alloc (.cells #[.int .i64 0, .int .i64 0, .int .i64 0, .string ⟨#[]⟩] 24)).frozen? ⟨w.heap.size + 1, 0, none⟩ = false := by simp [go_sem]
    have f1 : ((w.alloc (.cells #[.int .i64 a, .int .i64 b, .int .i64 c, .string p] 24)).alloc (.cells #[.int .i64 0, .int .i64 0, .int .i64 0, .string ⟨#[]⟩] 24)).frozen? ⟨w.heap.size + 1, 1, none⟩ = false := by simp [go_sem]
    have f2 : ((w.alloc (.cells #[.int .i64 a, .int .i64 b, .int .i64 c, .string p] 24)).alloc (.cells #[.int .i64 0, .int .i64 0, .int .i64 0, .string ⟨#[]⟩] 24)).frozen? ⟨w.heap.size + 1, 2, none⟩ = false := by simp [go_sem]
    have f3 : ((w.alloc (.cells #[.int .i64 a, .int .i64 b, .int .i64 c, .string p] 24)).alloc (.cells #[.int .i64 0, .int .i64 0, .int .i64 0, .string ⟨#[]⟩] 24)).frozen? ⟨w.heap.size + 1, 3, none⟩ = false := by simp [go_sem]
    have kc0 := cell_regrown c0
    have kc1 := cell_regrown c1
    have kc2 := cell_regrown c2
    have kc3 := cell_regrown c3
    have FC : Hid (∀ d os, Calls Tryz.prog 46 #[ver a b c p] (grow (redrawn ((w.alloc (.cells #[.int .i64 a, .int .i64 b, .int .i64 c, .string p] 24)).alloc (.cells #[.int .i64 0, .int .i64 0, .int .i64 0, .string ⟨#[]⟩] 24)) d) os) fun e w'' => e = .returned (ver a b c ⟨#[]⟩) ∧ ∃ q : Regrown, w'' = grow (redrawn ((w.alloc (.cells #[.int .i64 a, .int .i64 b, .int .i64 c, .string p] 24)).alloc (.cells #[.int .i64 0, .int .i64 0, .int .i64 0, .string ⟨#[]⟩] 24)) q.d) q.os) := fun d os => Calls.regrown_of (final_any a b c p _)
    by_cases h0 : p.size = 0
    · have he1 : p.toList.isEmpty = true := by rw [empty_eq]; simpa using h0
      have he2 : p.toList = [] := by simpa using he1
      have HX : Hid (bver true ⟨a, b, c, p⟩ l = ⟨a, b, c + 1, str ((⟨#[48]⟩ : ByteArray).data.toList ++ 46 :: l.data.toList)⟩) := by
        show bver _ _ _ = _
        unfold bver
        simp only [if_true]
        rw [if_pos h0]
      have HD := hide (fun W => dotted2d ⟨#[48]⟩ l W (by decide) hl)
      generalize str ((⟨#[48]⟩ : ByteArray).data.toList ++ 46 :: l.data.toList) = xj at *
      have wr : IntKind.i64.wrap (c + 1) = c + 1 := by rw [IntKind.wrap_i64]; omega
      clear h0
      go_enter Tryz.func57, Tryz.ntmps57
      go_wp2_with fail
      refine wp_region_quiet_below mixed (by kernel_rfl) ?_
      quiet_step (fail)
      quiet_step (fail)
      quiet_step (exact FC.out _ _)
      iterate 2 (quiet_step (fail))
      refine wpQuiet_nil ?_
      intro w1 hw1
      have r1 := regrown_below hw1
      have hB1 := hB0.trans (r1.mono (by simp; omega))
      have k1 : w.heap.size + 1 < w1.heap.size := by have := r1.size; simp at this; omega
      have n0 := cellLater r1 c0
      have n1 := cellLater r1 c1
      have n2 := cellLater r1 c2
      have n3 := cellLater r1 c3
      have o0 := cellLater r1 e0
      have o1 := cellLater r1 e1
      have o2 := cellLater r1 e2
      have o3 := cellLater r1 e3
      have g0 := (r1.frozen (p := ⟨w.heap.size + 1, 0, none⟩) (by simp)).trans f0
      have g1 := (r1.frozen (p := ⟨w.heap.size + 1, 1, none⟩) (by simp)).trans f1
      have g2 := (r1.frozen (p := ⟨w.heap.size + 1, 2, none⟩) (by simp)).trans f2
      have g3 := (r1.frozen (p := ⟨w.heap.size + 1, 3, none⟩) (by simp)).trans f3
      clear hw1 r1 hB0 c0 c1 c2 c3 e0 e1 e2 e3 f0 f1 f2 f3 kc0 kc1 kc2 kc3 FC
      have x0 := World.new_ne w1 ⟨w.heap.size, 0, none⟩ n0
      have x1 := World.new_ne w1 ⟨w.heap.size, 1, none⟩ n1
      have x2 := World.new_ne w1 ⟨w.heap.size, 2, none⟩ n2
      have x3 := World.new_ne w1 ⟨w.heap.size, 3, none⟩ n3
      go_wp2_with fail
      go_region_held3 (fun w' => w'.cell? ⟨w.heap.size, 0, none⟩ = some (.int .i64 a) ∧ w'.cell? ⟨w.heap.size, 1, none⟩ = some (.int .i64 b) ∧ w'.cell? ⟨w.heap.size, 2, none⟩ = some (.int .i64 c) ∧ w'.cell? ⟨w.heap.size, 3, none⟩ = some (.string p)) (first | go_keep | assumption) (first
        | (go_at_call 34; refine (HD.out _).mono ?_; rintro e w2 ⟨rfl, b2⟩; have y0 := cellLater b2 n0; have y1 := cellLater b2 n1; have y2 := cellLater b2 n2; have y3 := cellLater b2 n3; have z0 := cellLater b2 o0;  have z1 := cellLater b2 o1;  have z2 := cellLater b2 o2;  have z3 := cellLater b2 o3; have q0 := (b2.frozen (p := ⟨w.heap.size + 1, 0, none⟩) k1).trans g0;  have q1 := (b2.frozen (p := ⟨w.heap.size + 1, 1, none⟩) k1).trans g1;  have q2 := (b2.frozen (p := ⟨w.heap.size + 1, 2, none⟩) k1).trans g2;  have q3 := (b2.frozen (p := ⟨w.heap.size + 1, 3, none⟩) k1).trans g3; have hB2 := step hB1 b2; have k2 : w.heap.size + 1 < w2.heap.size := by have := b2.size; omega))
      rename_i hHeld
      clear hHeld
      go_wp2_with fail
      exact bodyPost_ret (v := ver a b (c + 1) xj) (by simp [results, Tryz.results57, go_sem, z0, z1, z2, z3]) rfl ⟨by rw [HX.out], (((hB2.setCell (by simp) _).setCell (by simp) _).setCell (by simp) _).setCell (by simp) _⟩
    · have he1 : p.toList.isEmpty = false := by rw [empty_eq]; simpa using h0
      have he2 : ¬ p.toList = [] := by intro e; rw [e] at he1; cases he1
      have HX : Hid (bver true ⟨a, b, c, p⟩ l = ⟨a, b, c, str (p.data.toList ++ 46 :: ((⟨#[48]⟩ : ByteArray).data.toList ++ 46 :: l.data.toList))⟩) := by
        show bver _ _ _ = _
        unfold bver
        simp only [if_true]
        rw [if_neg h0]
      have HD := hide (fun W => dotted3d p ⟨#[48]⟩ l W hp (by decide) hl)
      generalize str (p.data.toList ++ 46 :: ((⟨#[48]⟩ : ByteArray).data.toList ++ 46 :: l.data.toList)) = xj at *
      clear h0
      go_enter Tryz.func57, Tryz.ntmps57
      go_wp2_with fail
      refine wp_region_quiet_below mixed (by kernel_rfl) ?_
      quiet_step (fail)
      quiet_step (fail)
      quiet_step (exact FC.out _ _)
      iterate 2 (quiet_step (fail))
      refine wpQuiet_nil ?_
      intro w1 hw1
      have r1 := regrown_below hw1
      have hB1 := hB0.trans (r1.mono (by simp; omega))
      have k1 : w.heap.size + 1 < w1.heap.size := by have := r1.size; simp at this; omega
      have n0 := cellLater r1 c0
      have n1 := cellLater r1 c1
      have n2 := cellLater r1 c2
      have n3 := cellLater r1 c3
      have o0 := cellLater r1 e0
      have o1 := cellLater r1 e1
      have o2 := cellLater r1 e2
      have o3 := cellLater r1 e3
      have g0 := (r1.frozen (p := ⟨w.heap.size + 1, 0, none⟩) (by simp)).trans f0
      have g1 := (r1.frozen (p := ⟨w.heap.size + 1, 1, none⟩) (by simp)).trans f1
      have g2 := (r1.frozen (p := ⟨w.heap.size + 1, 2, none⟩) (by simp)).trans f2
      have g3 := (r1.frozen (p := ⟨w.heap.size + 1, 3, none⟩) (by simp)).trans f3
      clear hw1 r1 hB0 c0 c1 c2 c3 e0 e1 e2 e3 f0 f1 f2 f3 kc0 kc1 kc2 kc3 FC
      have x0 := World.new_ne w1 ⟨w.heap.size, 0, none⟩ n0
      have x1 := World.new_ne w1 ⟨w.heap.size, 1, none⟩ n1
      have x2 := World.new_ne w1 ⟨w.heap.size, 2, none⟩ n2
      have x3 := World.new_ne w1 ⟨w.heap.size, 3, none⟩ n3
      go_wp2_with fail
      go_region_held3 (fun w' => w'.cell? ⟨w.heap.size, 0, none⟩ = some (.int .i64 a) ∧ w'.cell? ⟨w.heap.size, 1, none⟩ = some (.int .i64 b) ∧ w'.cell? ⟨w.heap.size, 2, none⟩ = some (.int .i64 c) ∧ w'.cell? ⟨w.heap.size, 3, none⟩ = some (.string p)) (first | go_keep | assumption) (first
        | (go_at_call 34; refine (HD.out _).mono ?_; rintro e w2 ⟨rfl, b2⟩; have y0 := cellLater b2 n0; have y1 := cellLater b2 n1; have y2 := cellLater b2 n2; have y3 := cellLater b2 n3; have z0 := cellLater b2 o0;  have z1 := cellLater b2 o1;  have z2 := cellLater b2 o2;  have z3 := cellLater b2 o3; have q0 := (b2.frozen (p := ⟨w.heap.size + 1, 0, none⟩) k1).trans g0;  have q1 := (b2.frozen (p := ⟨w.heap.size + 1, 1, none⟩) k1).trans g1;  have q2 := (b2.frozen (p := ⟨w.heap.size + 1, 2, none⟩) k1).trans g2;  have q3 := (b2.frozen (p := ⟨w.heap.size + 1, 3, none⟩) k1).trans g3; have hB2 := step hB1 b2; have k2 : w.heap.size + 1 < w2.heap.size := by have := b2.size; omega))
      rename_i hHeld
      clear hHeld
      go_wp2_with fail
      exact bodyPost_ret (v := ver a b (c) xj) (by simp [results, Tryz.results57, go_sem, z0, z1, z2, z3]) rfl ⟨by rw [HX.out], (((hB2.setCell (by simp) _).setCell (by simp) _).setCell (by simp) _).setCell (by simp) _⟩

end Go.Proofs.YtiicikieemfcmaaGreatDoor
