/-
  Rows of versions; contracts of slices.MaxFunc by Cmp, of Max.
-/
import Derived.Test.YtiicikieemfcmaaGreatDoorU13
namespace Go.Proofs.YtiicikieemfcmaaGreatDoor
set_option linter.unusedSimpArgs false
set_option linter.unusedVariables false
open Go.RowKit Go.Vr Go.Sort Go.Tx Go.Lib
attribute [local go_sem] setCellDrewN allocDrewN

/-- A version in memory. -/
structure VerAt (w : World) (b o : Nat) (v : V) : Prop where
  c0 : w.cell? ⟨b, o, none⟩ = some (.int .i64 v.a)
  c1 : w.cell? ⟨b, o + 1, none⟩ = some (.int .i64 v.b)
  c2 : w.cell? ⟨b, o + 2, none⟩ = some (.int .i64 v.c)
  c3 : w.cell? ⟨b, o + 3, none⟩ = some (.string v.p)
theorem VerAt.later {w w' : World} {b o : Nat} {v : V} (h : VerAt w b o v) (hb : Below w.heap.size w w') : VerAt w' b o v :=
  ⟨cellLater hb h.c0, cellLater hb h.c1, cellLater hb h.c2, cellLater hb h.c3⟩

/-- A variable of the call's own that holds a version. -/
structure VarAt (w : World) (N : Nat) (v : V) : Prop where
  lt : N < w.heap.size
  c0 : w.cell? ⟨N, 0, none⟩ = some (.int .i64 v.a)
  c1 : w.cell? ⟨N, 1, none⟩ = some (.int .i64 v.b)
  c2 : w.cell? ⟨N, 2, none⟩ = some (.int .i64 v.c)
  c3 : w.cell? ⟨N, 3, none⟩ = some (.string v.p)
  f0 : w.frozen? ⟨N, 0, none⟩ = false
  f1 : w.frozen? ⟨N, 1, none⟩ = false
  f2 : w.frozen? ⟨N, 2, none⟩ = false
  f3 : w.frozen? ⟨N, 3, none⟩ = false
theorem VarAt.later {w w' : World} {N : Nat} {v : V} (h : VarAt w N v) (b : Below w.heap.size w w') : VarAt w' N v :=
  ⟨Nat.lt_of_lt_of_le h.lt b.size, cellLater b h.c0, cellLater b h.c1, cellLater b h.c2, cellLater b h.c3, (b.frozen (p := ⟨N, 0, none⟩) h.lt).trans h.f0, (b.frozen (p := ⟨N, 1, none⟩) h.lt).trans h.f1, (b.frozen (p := ⟨N, 2, none⟩) h.lt).trans h.f2, (b.frozen (p := ⟨N, 3, none⟩) h.lt).trans h.f3⟩
theorem VarAt.new (w : World) (v : V) : VarAt (w.alloc (.cells #[.int .i64 v.a, .int .i64 v.b, .int .i64 v.c, .string v.p] 24)) w.heap.size v :=
  ⟨by simp, by simp [go_sem], by simp [go_sem], by simp [go_sem], by simp [go_sem], by simp [go_sem], by simp [go_sem], by simp [go_sem], by simp [go_sem]⟩
/-- Stored anew. -/
def putV (w : World) (N : Nat) (v : V) : World := (((w.setCell ⟨N, 0, none⟩ (.int .i64 v.a)).setCell ⟨N, 1, none⟩ (.int .i64 v.b)).setCell ⟨N, 2, none⟩ (.int .i64 v.c)).setCell ⟨N, 3, none⟩ (.string v.p)
theorem VarAt.put {w : World} {N : Nat} {u : V} (h : VarAt w N u) (v : V) : VarAt (putV w N v) N v := by
  obtain ⟨lt, c0, c1, c2, c3, f0, f1, f2, f3⟩ := h
  unfold putV
  exact ⟨by simpa [World.setCell] using lt, by simp [go_sem, c0, c1, c2, c3], by simp [go_sem, c0, c1, c2, c3], by simp [go_sem, c0, c1, c2, c3], by simp [go_sem, c0, c1, c2, c3], by simp [go_sem, f0], by simp [go_sem, f1], by simp [go_sem, f2], by simp [go_sem, f3]⟩
theorem VarAt.far {w : World} {N M : Nat} {u : V} (h : VarAt w M u) (v : V) (hne : N ≠ M) : VarAt (putV w N v) M u := by
  obtain ⟨lt, c0, c1, c2, c3, f0, f1, f2, f3⟩ := h
  unfold putV
  exact ⟨by simpa [World.setCell] using lt, by simp [go_sem, c0, hne], by simp [go_sem, c1, hne], by simp [go_sem, c2, hne], by simp [go_sem, c3, hne], by simp [go_sem, f0], by simp [go_sem, f1], by simp [go_sem, f2], by simp [go_sem, f3]⟩
theorem putV_below {B : Nat} {w w' : World} {N : Nat} (h : Below B w w') (hB : B ≤ N) (v : V) : Below B w (putV w' N v) :=
  (((h.setCell hB _).setCell hB _).setCell hB _).setCell hB _

theorem cmp_enters : ∀ args w, (callFunc 25 args).run Tryz.prog w = .ok (.enter 25 args) w := enters_of Tryz.func25 (by kernel_rfl) rfl

theorem vtake (vs : List V) (k : Nat) (h : k < vs.length) : vs.take (k + 1) = vs.take k ++ [vs.getD k V.zero] := by
  rw [List.take_add_one]
  simp [List.getD, List.getElem?_eq_getElem h]
theorem vmem (vs : List V) (k : Nat) (h : k < vs.length) : vs.getD k V.zero ∈ vs := by
  rw [List.getD_eq_getElem?_getD, List.getElem?_eq_getElem h]; exact List.getElem_mem _
theorem maxV_snoc (vs : List V) (v : V) (h : vs ≠ []) : maxV (vs ++ [v]) = if 0 < cmpV v (maxV vs) then v else maxV vs := by
  cases vs with
  | nil => exact absurd rfl h
  | cons x l => show (l ++ [v]).foldl maxF x = _; rw [List.foldl_append]; rfl

set_option maxHeartbeats 4000000 in
set_option maxRecDepth 100000 in
theorem maxF_any (b off n cap : Nat) (vs : List V) (w : World) (hn : vs.length = n) (h0 : 0 < n) (h1 : n ≤ 1000) (hr : ∀ j, j < n → VerAt w b (off + j * 4) (vs.getD j V.zero)) (ho : ∀ v ∈ vs, v.ok = true) (he : Env w) :
    Calls Tryz.prog 54 #[.slice (some ⟨b, off, none⟩) n cap, .func (.func 25) #[] #[]] w fun e w' => e = .returned (val (maxV vs)) ∧ Below w.heap.size w w' := by
  have HR := hide hr
  have HO := hide ho
  have HE := hide he
  have HN := hide hn
  have EN := cmp_enters
  have hv0 := hr 0 h0
  rw [Nat.zero_mul, Nat.add_zero] at hv0
  obtain ⟨c0, c1, c2, c3⟩ := hv0
  clear hr ho he hn
  generalize hv0 : vs.getD 0 V.zero = v0 at *
  have HV0 := hide hv0
  clear hv0
  have x0 := World.new_ne w ⟨b, off, none⟩ c0
  have x1 := World.new_ne w ⟨b, off + 1, none⟩ c1
  have x2 := World.new_ne w ⟨b, off + 2, none⟩ c2
  have x3 := World.new_ne w ⟨b, off + 3, none⟩ c3
  have d1 : decide ((n : Int) < 1) = false := by simp; omega
  have y0 := fun o => cellLater ((Below.refl _ w).alloc (Nat.le_refl _) o) c0
  have y1 := fun o => cellLater ((Below.refl _ w).alloc (Nat.le_refl _) o) c1
  have y2 := fun o => cellLater ((Below.refl _ w).alloc (Nat.le_refl _) o) c2
  have y3 := fun o => cellLater ((Below.refl _ w).alloc (Nat.le_refl _) o) c3
  have hbl : b < w.heap.size := World.block_lt_of_cell? _ _ c0
  have hne : ¬ b = w.heap.size := by omega
  go_enter Tryz.func54, Tryz.ntmps54
  go_wp2_with fail
  clear x0 x1 x2 x3 y0 y1 y2 y3 hne c0 c1 c2 c3
  have hz1 : w.heap.size + 1 = (w.alloc (.cells #[.int .i64 0, .int .i64 0, .int .i64 0, .string ⟨#[]⟩] 24)).heap.size := by simp
  have V0 : VarAt (w.alloc (.cells #[.int .i64 0, .int .i64 0, .int .i64 0, .string ⟨#[]⟩] 24)) w.heap.size V.zero := VarAt.new w V.zero
  have V1 := VarAt.new (w.alloc (.cells #[.int .i64 0, .int .i64 0, .int .i64 0, .string ⟨#[]⟩] 24)) v0
  rw [← hz1] at V1
  go_loopw [6] (fun i wr => ∃ k : Nat, 1 ≤ k ∧ k ≤ n ∧ i = .int .i64 k ∧ VarAt wr w.heap.size V.zero ∧ VarAt wr (w.heap.size + 1) (maxV (vs.take k)) ∧ Below w.heap.size w wr) (fun i _ => n - (RowKit.intOf i).toNat)
  case atStart =>
    refine ⟨1, by omega, by omega, rfl, V0.later ((Below.refl _ _).alloc (Nat.le_refl _) _), ?_, ((Below.refl _ _).alloc (Nat.le_refl _) _).alloc (by simp) _⟩
    have e : maxV (vs.take 1) = v0 := by
      rw [vtake vs 0 (by rw [HN.out]; exact h0), HV0.out]; rfl
    rw [e]; exact V1
  case round =>
    obtain ⟨k, hk1, hk2, rfl, VZ, VM, hB⟩ := hrel
    clear hz1 V0 V1
    by_cases hlt : k < n
    · obtain ⟨e0, e1, e2, e3⟩ := (HR.out k hlt).later hB
      have hkl : k < vs.length := by rw [HN.out]; exact hlt
      have hok := HO.out _ (vmem vs k hkl)
      have hne : vs.take k ≠ [] := fun e => by have := congrArg List.length e; rw [List.length_take] at this; simp only [List.length_nil] at this; omega
      have hmk : (maxV (vs.take k)).ok = true := HO.out _ (List.mem_of_mem_take (maxV_mem _ hne))
      have HM : Hid (maxV (vs.take (k + 1)) = if 0 < cmpV (vs.getD k V.zero) (maxV (vs.take k)) then vs.getD k V.zero else maxV (vs.take k)) := by
        show _ = _
        rw [vtake vs k hkl, maxV_snoc _ _ hne]
      generalize vs.getD k V.zero = v at *
      generalize maxV (vs.take k) = m at *
      have E := hide (HE.out.later hB)
      have FC : Hid (∀ d os, Calls Tryz.prog 25 #[val v, val m] (grow (redrawn wr d) os) fun e w'' => e = .returned (.int .i64 (cmpV v m)) ∧ ∃ q : Regrown, w'' = grow (redrawn wr q.d) q.os) := fun d os => Calls.regrown_of (cmp_any v m _ hok hmk (E.out.later (below_regrown wr d os)))
      clear hok hmk hne E
      obtain ⟨lt, c0, c1, c2, c3, f0, f1, f2, f3⟩ := VM
      have ke0 := cell_regrown e0
      have ke1 := cell_regrown e1
      have ke2 := cell_regrown e2
      have ke3 := cell_regrown e3
      have kc0 := cell_regrown c0
      have kc1 := cell_regrown c1
      have kc2 := cell_regrown c2
      have kc3 := cell_regrown c3
      have i1 : (0 : Int) ≤ (k : Int) := by omega
      have i2 : (k : Int) < (n : Int) := by omega
      go_wp2_with fail
      refine wp_region_quiet_below mixed (by kernel_rfl) ?_
      iterate 6 (quiet_step (fail))
      quiet_step (exact FC.out _ _)
      quiet_step (fail)
      refine wpQuiet_nil ?_
      intro w1 hw1
      have r1 := regrown_below hw1
      have hB1 := step hB r1
      have VM1 : VarAt w1 (w.heap.size + 1) m := VarAt.later ⟨lt, c0, c1, c2, c3, f0, f1, f2, f3⟩ r1
      have VZ1 := VZ.later r1
      have g0 := cellLater r1 e0
      have g1 := cellLater r1 e1
      have g2 := cellLater r1 e2
      have g3 := cellLater r1 e3
      clear hw1 r1 ke0 ke1 ke2 ke3 kc0 kc1 kc2 kc3 e0 e1 e2 e3 c0 c1 c2 c3 f0 f1 f2 f3 lt FC VZ hB
      by_cases hq : 0 < cmpV v m
      · have dq : decide (0 < cmpV v m) = true := by simpa using hq
        have HM2 : Hid (maxV (vs.take (k + 1)) = v) := by show _ = _; rw [HM.out, if_pos hq]
        have VP := VM1.put v
        have VF := VZ1.far v (N := w.heap.size + 1) (by omega)
        have hBP := putV_below hB1 (N := w.heap.size + 1) (by omega) v
        have HVP := hide VP
        have HVF := hide VF
        have HBP := hide hBP
        clear VP VF hBP
        obtain ⟨lt, c0, c1, c2, c3, f0, f1, f2, f3⟩ := VM1
        go_wp2_with fail
        go_roundw
        case rel => exact ⟨k + 1, by omega, by omega, by go_num, HVF.out, by rw [HM2.out]; exact HVP.out, HBP.out⟩
        case measure => simp [RowKit.intOf]; omega
      · have dq : decide (0 < cmpV v m) = false := by simpa using hq
        have HM2 : Hid (maxV (vs.take (k + 1)) = m) := by show _ = _; rw [HM.out, if_neg hq]
        go_wp2_with fail
        go_roundw
        case rel => exact ⟨k + 1, by omega, by omega, by go_num, VZ1, by rw [HM2.out]; exact VM1, hB1⟩
        case measure => simp [RowKit.intOf]; omega
    · have hd : decide ((k : Int) < (n : Int)) = false := by simp; omega
      have HM2 : Hid (maxV (vs.take k) = maxV vs) := by show _ = _; rw [List.take_of_length_le (by rw [HN.out]; omega)]
      generalize maxV (vs.take k) = m at *
      obtain ⟨lt, c0, c1, c2, c3, f0, f1, f2, f3⟩ := VM
      obtain ⟨zt, z0, z1, z2, z3, y0, y1, y2, y3⟩ := VZ
      go_wp2_with fail
      exact bodyPost_ret (v := val m) (by simp [results, Tryz.results54, go_sem, z0, z1, z2, z3]) rfl ⟨by rw [HM2.out], (((hB.setCell (by simp) _).setCell (by simp) _).setCell (by simp) _).setCell (by simp) _⟩

set_option maxHeartbeats 1000000 in
set_option maxRecDepth 100000 in
theorem max_none (a : Option Addr) (cap : Nat) (w : World) :
    Calls Tryz.prog 27 #[.slice a 0 cap] w fun e w' => e = .returned (val V.zero) ∧ Below w.heap.size w w' := by
  go_enter Tryz.func27, Tryz.ntmps27
  go_wp2_with fail
  exact bodyPost_ret (v := val V.zero) (by simp [results, Tryz.results27, go_sem]; exact ⟨rfl, rfl, rfl, rfl⟩) rfl ⟨rfl, (Below.refl _ _).alloc (Nat.le_refl _) _⟩

set_option maxHeartbeats 1000000 in
set_option maxRecDepth 100000 in
theorem max_any (b off n cap : Nat) (vs : List V) (w : World) (hn : vs.length = n) (h0 : 0 < n) (h1 : n ≤ 1000) (hr : ∀ j, j < n → VerAt w b (off + j * 4) (vs.getD j V.zero)) (ho : ∀ v ∈ vs, v.ok = true) (he : Env w) :
    Calls Tryz.prog 27 #[.slice (some ⟨b, off, none⟩) n cap] w fun e w' => e = .returned (val (maxV vs)) ∧ Below w.heap.size w w' := by
  have ba : Below w.heap.size w (w.alloc (.cells #[.int .i64 0, .int .i64 0, .int .i64 0, .string ⟨#[]⟩] 24)) := (Below.refl _ _).alloc (Nat.le_refl _) _
  have HM := hide (maxF_any b off n cap vs (w.alloc (.cells #[.int .i64 0, .int .i64 0, .int .i64 0, .string ⟨#[]⟩] 24)) hn h0 h1 (fun j hj => (hr j hj).later ba) ho (he.later ba))
  have V0 : VarAt (w.alloc (.cells #[.int .i64 0, .int .i64 0, .int .i64 0, .string ⟨#[]⟩] 24)) w.heap.size V.zero := VarAt.new w V.zero
  have HV0 := hide V0
  have d0 : ((n : Int) == 0) = false := by simp; omega
  clear hr ho he V0
  generalize maxV vs = m at *
  go_enter Tryz.func27, Tryz.ntmps27
  go_wp2_with fail
  refine HM.out.mono ?_
  rintro e w1 ⟨rfl, b1⟩
  obtain ⟨zt, z0, z1, z2, z3, y0, y1, y2, y3⟩ := HV0.out.later b1
  have hB1 := ba.trans (b1.mono (by simp))
  go_wp2_with fail
  exact bodyPost_ret (v := val m) (by simp [results, Tryz.results27, go_sem, z0, z1, z2, z3]) rfl ⟨rfl, (((hB1.setCell (by simp) _).setCell (by simp) _).setCell (by simp) _).setCell (by simp) _⟩

end Go.Proofs.YtiicikieemfcmaaGreatDoor
