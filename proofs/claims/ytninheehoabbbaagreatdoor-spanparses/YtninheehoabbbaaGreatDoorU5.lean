/-
  Contract of Text.
-/
import Derived.Test.YtninheehoabbbaaGreatDoorU4
namespace Go.Proofs.YtninheehoabbbaaGreatDoor
set_option linter.unusedSimpArgs false
set_option linter.unusedVariables false
open Go.RowKit Go.Vr Go.Sort Go.Tx Go.Lib
attribute [local go_sem] setCellDrewN allocDrewN

theorem join3 (x y z : Bs) : join [x, y, z] [46] = x ++ 46 :: (y ++ 46 :: z) := by
  rw [join_cons]; simp [joinTail]
theorem join2 (x y : Bs) : join [x, y] [46] = x ++ 46 :: y := by
  rw [join_cons]; simp [joinTail]
theorem row3_cells (w : World) (x y z : ByteArray) : ∀ (j : Nat) v, [x, y, z][j]? = some v → (w.alloc (.cells #[.string x, .string y, .string z] 9)).cell? ⟨w.heap.size, 0 + j, none⟩ = some (.string v) := by
  intro j v h
  match j, h with
  | 0, h => simp at h; subst h; simp [go_sem]
  | 1, h => simp at h; subst h; simp [go_sem]
  | 2, h => simp at h; subst h; simp [go_sem]
theorem row2_cells (w : World) (x y : ByteArray) : ∀ (j : Nat) v, [x, y][j]? = some v → (w.alloc (.cells #[.string x, .string y] 9)).cell? ⟨w.heap.size, 0 + j, none⟩ = some (.string v) := by
  intro j v h
  match j, h with
  | 0, h => simp at h; subst h; simp [go_sem]
  | 1, h => simp at h; subst h; simp [go_sem]
/-- dotted of three, of two texts, just laid. -/
theorem dotted3 (x y z : ByteArray) (w : World) (hx : x.size ≤ 1000) (hy : y.size ≤ 1000) (hz : z.size ≤ 1000) :
    Calls Tryz.prog 78 #[.slice (some ⟨w.heap.size, 0, none⟩) 3 3] (w.alloc (.cells #[.string x, .string y, .string z] 9)) fun e w' => e = .returned (.string (str (x.data.toList ++ 46 :: (y.data.toList ++ 46 :: z.data.toList)))) ∧ Below w.heap.size w w' := by
  have := dotted_any w.heap.size 0 3 [x, y, z] (w.alloc (.cells #[.string x, .string y, .string z] 9)) (row3_cells w x y z) (by simp) (by simp) (by simp) (by simp only [List.map_cons, List.map_nil]; rw [join3]; simp; omega)
  simp only [List.map_cons, List.map_nil, join3] at this
  exact this.mono fun e w' h => ⟨h.1, ((Below.refl _ _).alloc (Nat.le_refl _) _).trans (h.2.mono (by simp))⟩
theorem dotted2 (x y : ByteArray) (w : World) (hx : x.size ≤ 1000) (hy : y.size ≤ 1000) :
    Calls Tryz.prog 78 #[.slice (some ⟨w.heap.size, 0, none⟩) 2 2] (w.alloc (.cells #[.string x, .string y] 9)) fun e w' => e = .returned (.string (str (x.data.toList ++ 46 :: y.data.toList))) ∧ Below w.heap.size w w' := by
  have := dotted_any w.heap.size 0 2 [x, y] (w.alloc (.cells #[.string x, .string y] 9)) (row2_cells w x y) (by simp) (by simp) (by simp) (by simp only [List.map_cons, List.map_nil]; rw [join2]; simp; omega)
  simp only [List.map_cons, List.map_nil, join2] at this
  exact this.mono fun e w' h => ⟨h.1, ((Below.refl _ _).alloc (Nat.le_refl _) _).trans (h.2.mono (by simp))⟩

set_option maxHeartbeats 2000000 in
set_option maxRecDepth 100000 in
theorem text_any (v : V) (w : World) (hv : v.ok = true) (he : Env w) :
    Calls Tryz.prog 54 #[val v] w fun e w' => e = .returned (.string (str (txt v))) ∧ Below w.heap.size w w' := by
  obtain ⟨ha, hb, hc, hp⟩ := ok_parts hv
  have hp2 : v.p.size ≤ 40 := by rw [preOk_eq] at hp; simp only [Bool.and_eq_true, decide_eq_true_eq] at hp; exact hp.1
  obtain ⟨a, b, c, p⟩ := v
  simp only at ha hb hc hp2
  have hB0 : Below w.heap.size w (w.alloc (.cells #[.int .i64 a, .int .i64 b, .int .i64 c, .string p] 37)) := (Below.refl _ _).alloc (Nat.le_refl _) _
  have HE : Hid (Env (w.alloc (.cells #[.int .i64 a, .int .i64 b, .int .i64 c, .string p] 37))) := he.later hB0
  have s1 := itoa_size a ha.1 (by omega)
  have s2 := itoa_size b hb.1 (by omega)
  have s3 := itoa_size c hc.1 (by omega)
  have HX : Hid (str (txt ⟨a, b, c, p⟩) = (⟨#[118]⟩ : ByteArray) ++ str ((str (itoa a)).data.toList ++ 46 :: ((str (itoa b)).data.toList ++ 46 :: (str (itoa c)).data.toList)) ++ str (tail p.data.toList)) := by
    show str (txt ⟨a, b, c, p⟩) = _
    refine ba_ext ?_
    simp [txt, ba_app, str_list]
  have CA : Hid (∀ W, Env W → Calls Tryz.prog 79 #[.int .i64 a] W fun e w' => e = .returned (.string (str (itoa a))) ∧ Below W.heap.size W w') := fun W hW => itoa_any a W (by omega) (by omega) hW
  have CB : Hid (∀ W, Env W → Calls Tryz.prog 79 #[.int .i64 b] W fun e w' => e = .returned (.string (str (itoa b))) ∧ Below W.heap.size W w') := fun W hW => itoa_any b W (by omega) (by omega) hW
  have CC : Hid (∀ W, Env W → Calls Tryz.prog 79 #[.int .i64 c] W fun e w' => e = .returned (.string (str (itoa c))) ∧ Below W.heap.size W w') := fun W hW => itoa_any c W (by omega) (by omega) hW
  clear he hp hv ha hb hc
  generalize str (itoa a) = xa at *
  generalize str (itoa b) = xb at *
  generalize str (itoa c) = xc at *
  have CJ := hide (fun W => dotted3 xa xb xc W (by omega) (by omega) (by omega))
  have sj : (str (xa.data.toList ++ 46 :: (xb.data.toList ++ 46 :: xc.data.toList))).size ≤ 1000 := by rw [Tx.str_size]; simp; omega
  generalize str (xa.data.toList ++ 46 :: (xb.data.toList ++ 46 :: xc.data.toList)) = xj at *
  have n1 : ¬ 9223372036854775807 < 1 + xj.size := by omega
  go_enter Tryz.func54, Tryz.ntmps54
  go_wp2_with fail
  go_region_held3 (fun w' => w'.cell? ⟨w.heap.size, 0, none⟩ = some (.int .i64 a) ∧ w'.cell? ⟨w.heap.size, 1, none⟩ = some (.int .i64 b) ∧ w'.cell? ⟨w.heap.size, 2, none⟩ = some (.int .i64 c) ∧ w'.cell? ⟨w.heap.size, 3, none⟩ = some (.string p)) (first | go_keep | assumption) (first
    | (go_at_call_of 79 (Value.int .i64 a); refine (CA.out _ (HE.out.later (Below.refl _ _).drew)).mono ?_; rintro e w1 ⟨rfl, b1⟩; have E1 := hide ((HE.out.later (Below.refl _ _).drew).later b1); have hB1 : Below w.heap.size w w1 := hB0.drew.trans (b1.mono (by simp)); have c10 := cellLater (a := ⟨w.heap.size, 0, none⟩) (v := .int .i64 a) b1 (by first | assumption | (simp [go_sem]; done)); have c11 := cellLater (a := ⟨w.heap.size, 1, none⟩) (v := .int .i64 b) b1 (by first | assumption | (simp [go_sem]; done)); have c12 := cellLater (a := ⟨w.heap.size, 2, none⟩) (v := .int .i64 c) b1 (by first | assumption | (simp [go_sem]; done)); have c13 := cellLater (a := ⟨w.heap.size, 3, none⟩) (v := .string p) b1 (by first | assumption | (simp [go_sem]; done)); skip)
    | (go_at_call_of 79 (Value.int .i64 b); refine (CB.out _ (E1.out)).mono ?_; rintro e w2 ⟨rfl, b2⟩; have E2 := hide ((E1.out).later b2); have hB2 : Below w.heap.size w w2 := step hB1 b2; have c20 := cellLater (a := ⟨w.heap.size, 0, none⟩) (v := .int .i64 a) b2 (by first | assumption | (simp [go_sem]; done)); have c21 := cellLater (a := ⟨w.heap.size, 1, none⟩) (v := .int .i64 b) b2 (by first | assumption | (simp [go_sem]; done)); have c22 := cellLater (a := ⟨w.heap.size, 2, none⟩) (v := .int .i64 c) b2 (by first | assumption | (simp [go_sem]; done)); have c23 := cellLater (a := ⟨w.heap.size, 3, none⟩) (v := .string p) b2 (by first | assumption | (simp [go_sem]; done)); skip)
    | (go_at_call_of 79 (Value.int .i64 c); refine (CC.out _ (E2.out)).mono ?_; rintro e w3 ⟨rfl, b3⟩; have E3 := hide ((E2.out).later b3); have hB3 : Below w.heap.size w w3 := step hB2 b3; have c30 := cellLater (a := ⟨w.heap.size, 0, none⟩) (v := .int .i64 a) b3 (by first | assumption | (simp [go_sem]; done)); have c31 := cellLater (a := ⟨w.heap.size, 1, none⟩) (v := .int .i64 b) b3 (by first | assumption | (simp [go_sem]; done)); have c32 := cellLater (a := ⟨w.heap.size, 2, none⟩) (v := .int .i64 c) b3 (by first | assumption | (simp [go_sem]; done)); have c33 := cellLater (a := ⟨w.heap.size, 3, none⟩) (v := .string p) b3 (by first | assumption | (simp [go_sem]; done)); skip)
    | (go_at_call 78; refine (CJ.out _).mono ?_; rintro e w4 ⟨rfl, b4⟩; have hB4 : Below w.heap.size w w4 := step hB3 b4; have c40 := cellLater (a := ⟨w.heap.size, 0, none⟩) (v := .int .i64 a) b4 (by assumption); have c41 := cellLater (a := ⟨w.heap.size, 1, none⟩) (v := .int .i64 b) b4 (by assumption); have c42 := cellLater (a := ⟨w.heap.size, 2, none⟩) (v := .int .i64 c) b4 (by assumption); have c43 := cellLater (a := ⟨w.heap.size, 3, none⟩) (v := .string p) b4 (by assumption)))
  rename_i hHeld
  clear hHeld
  by_cases h0 : p.size = 0
  · have he : p.toList.isEmpty = true := by rw [empty_eq]; simpa using h0
    have HT : Hid (tail p.data.toList = []) := by
      show tail p.data.toList = []
      unfold tail
      rw [if_pos (List.eq_nil_of_length_eq_zero (by rw [len_eq]; exact h0))]
    clear h0
    go_wp2_with fail
    go_ret
    exact ⟨ret_str (by rw [HX.out, HT.out]; refine ba_ext ?_; simp [ba_app, str_list]), hB4⟩
  · have he : p.toList.isEmpty = false := by rw [empty_eq]; simpa using h0
    have HT : Hid (tail p.data.toList = 45 :: p.data.toList) := by
      show tail p.data.toList = _
      unfold tail
      rw [if_neg (fun e => h0 (by have := len_eq p; rw [e] at this; simpa using this.symm))]
    clear h0
    go_wp2_with fail
    go_ret
    exact ⟨ret_str (by rw [HX.out, HT.out]; refine ba_ext ?_; simp [ba_app, str_list]), hB4⟩

end Go.Proofs.YtninheehoabbbaaGreatDoor
