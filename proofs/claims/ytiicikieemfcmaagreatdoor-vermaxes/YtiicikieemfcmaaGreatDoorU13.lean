/-
  Contract of Pseudo.
-/
import Derived.Test.YtiicikieemfcmaaGreatDoorU12
import Derived.Deep.DeepCutAuto
namespace Go.Proofs.YtiicikieemfcmaaGreatDoor
set_option linter.unusedSimpArgs false
set_option linter.unusedVariables false
open Go.RowKit Go.Vr Go.Sort Go.Tx Go.Lib
attribute [local go_sem] setCellDrewN allocDrewN

theorem cutIn {p q : Prop} (h : p) (k : p → q) : q := k h
/-- A version just laid, all noughts. -/
structure ZeroAt (w : World) (N : Nat) : Prop where
  lt : N < w.heap.size
  c0 : w.cell? ⟨N, 0, none⟩ = some (.int .i64 0)
  c1 : w.cell? ⟨N, 1, none⟩ = some (.int .i64 0)
  c2 : w.cell? ⟨N, 2, none⟩ = some (.int .i64 0)
  c3 : w.cell? ⟨N, 3, none⟩ = some (.string ⟨#[]⟩)
  f0 : w.frozen? ⟨N, 0, none⟩ = false
  f1 : w.frozen? ⟨N, 1, none⟩ = false
  f2 : w.frozen? ⟨N, 2, none⟩ = false
  f3 : w.frozen? ⟨N, 3, none⟩ = false
theorem ZeroAt.new (w : World) : ZeroAt (w.alloc (.cells #[.int .i64 0, .int .i64 0, .int .i64 0, .string ⟨#[]⟩] 24)) w.heap.size :=
  ⟨by simp, by simp [go_sem], by simp [go_sem], by simp [go_sem], by simp [go_sem], by simp [go_sem], by simp [go_sem], by simp [go_sem], by simp [go_sem]⟩
theorem ZeroAt.newd (w : World) : ZeroAt (w.alloc (.cells #[.int .i64 0, .int .i64 0, .int .i64 0, .string ⟨#[]⟩] 24)).drew w.heap.size :=
  ⟨by simp, by simp [go_sem], by simp [go_sem], by simp [go_sem], by simp [go_sem], by simp [go_sem], by simp [go_sem], by simp [go_sem], by simp [go_sem]⟩
theorem ZeroAt.later {w w' : World} {N : Nat} (h : ZeroAt w N) (b : Below w.heap.size w w') : ZeroAt w' N :=
  ⟨Nat.lt_of_lt_of_le h.lt b.size, cellLater b h.c0, cellLater b h.c1, cellLater b h.c2, cellLater b h.c3, (b.frozen (p := ⟨N, 0, none⟩) h.lt).trans h.f0, (b.frozen (p := ⟨N, 1, none⟩) h.lt).trans h.f1, (b.frozen (p := ⟨N, 2, none⟩) h.lt).trans h.f2, (b.frozen (p := ⟨N, 3, none⟩) h.lt).trans h.f3⟩

set_option maxHeartbeats 4000000 in
set_option maxRecDepth 100000 in
theorem pseudo_any (has : Bool) (v : V) (t : Int) (id : ByteArray) (w : World) (hc : 0 ≤ v.c ∧ v.c ≤ 999999) (hp : v.p.size ≤ 900) (ht0 : -9223372036854775808 ≤ t) (ht1 : t ≤ 9223372036854775807) (hi : id.size ≤ 1000) (he : Env w) :
    Calls Tryz.prog 29 #[.bool has, val v, .int .i64 t, .string id] w fun e w' => e = .returned (pret (pseudo has v t id.data.toList)) ∧ Below w.heap.size w w' := by
  obtain ⟨a, b, c, p⟩ := v
  simp only at hc hp
  have hB0 : Below w.heap.size w ((w.alloc (.cells #[.int .i64 a, .int .i64 b, .int .i64 c, .string p] 24)).alloc (.cells #[.int .i64 0, .int .i64 0, .int .i64 0, .string ⟨#[]⟩] 24)) := ((Below.refl _ _).alloc (Nat.le_refl _) _).alloc (by simp) _
  have E0 : Hid (Env ((w.alloc (.cells #[.int .i64 a, .int .i64 b, .int .i64 c, .string p] 24)).alloc (.cells #[.int .i64 0, .int .i64 0, .int .i64 0, .string ⟨#[]⟩] 24))) := he.later hB0
  have c0 : ((w.alloc (.cells #[.int .i64 a, .int .i64 b, .int .i64 c, .string p] 24)).alloc (.cells #[.int .i64 0, .int .i64 0, .int .i64 0, .string ⟨#[]⟩] 24)).cell? ⟨w.heap.size, 0, none⟩ = some (.int .i64 a) := by simp [go_sem]
  have c1 : ((w.alloc (.cells #[.int .i64 a, .int .i64 b, .int .i64 c, .string p] 24)).alloc (.cells #[.int .i64 0, .int .i64 0, .int .i64 0, .string ⟨#[]⟩] 24)).cell? ⟨w.heap.size, 1, none⟩ = some (.int .i64 b) := by simp [go_sem]
  have c2 : ((w.alloc (.cells #[.int .i64 a, .int .i64 b, .int .i64 c, .string p] 24)).alloc (.cells #[.int .i64 0, .int .i64 0, .int .i64 0, .string ⟨#[]⟩] 24)).cell? ⟨w.heap.size, 2, none⟩ = some (.int .i64 c) := by simp [go_sem]
  have c3 : ((w.alloc (.cells #[.int .i64 a, .int .i64 b, .int .i64 c, .string p] 24)).alloc (.cells #[.int .i64 0, .int .i64 0, .int .i64 0, .string ⟨#[]⟩] 24)).cell? ⟨w.heap.size, 3, none⟩ = some (.string p) := by simp [go_sem]
  have e0 : ((w.alloc (.cells #[.int .i64 a, .int .i64 b, .int .i64 c, .string p] 24)).alloc (.cells #[.int .i64 0, .int .i64 0, .int .i64 0, .string ⟨#[]⟩] 24)).cell? ⟨w.heap.size + 1, 0, none⟩ = some (.int .i64 0) := by simp [go_sem]
  have e1 : ((w.alloc (.cells #[.int .i64 a, .int .i64 b, .int .i64 c, .string p] 24)).alloc (.cells #[.int .i64 0, .int .i64 0, .int .i64 0, .string ⟨#[]⟩] 24)).cell? ⟨w.heap.size + 1, 1, none⟩ = some (.int .i64 0) := by simp [go_sem]
  have e2 : ((w.alloc (.cells #[.int .i64 a, .int .i64 b, .int .i64 c, .string p] 24)).alloc (.cells #[.int .i64 0, .int .i64 0, .int .i64 0, .string ⟨#[]⟩] 24)).cell? ⟨w.heap.size + 1, 2, none⟩ = some (.int .i64 0) := by simp [go_sem]
  have e3 : ((w.alloc (.cells #[.int .i64 a, .int .i64 b, .int .i64 c, .string p] 24)).alloc (.cells #[.int .i64 0, .int .i64 0, .int .i64 0, .string ⟨#[]⟩] 24)).cell? ⟨w.heap.size + 1, 3, none⟩ = some (.string ⟨#[]⟩) := by simp [go_sem]
  have f0 : ((w.alloc (.cells #[.int .i64 a, .int .i64 b, .int .i64 c, .string p] 24)).alloc (.cells #[.int .i64 0, .int .i64 0, .int .i64 0, .string ⟨#[]⟩] 24)).frozen? ⟨w.heap.size + 1, 0, none⟩ = false := by simp [go_sem]
  have f1 : ((w.alloc (.cells #[.int .i64 a, .int .i64 b, .int .i64 c, .string p] 24)).alloc (.cells #[.int .i64 0, .int .i64 0, .int .i64 0, .string ⟨#[]⟩] 24)).frozen? ⟨w.heap.size + 1, 1, none⟩ = false := by simp [go_sem]
  have f2 : ((w.alloc (.cells #[.int .i64 a, .int .i64 b, .int .i64 c, .string p] 24)).alloc (.cells #[.int .i64 0, .int .i64 0, .int .i64 0, .string ⟨#[]⟩] 24)).frozen? ⟨w.heap.size + 1, 2, none⟩ = false := by simp [go_sem]
  have f3 : ((w.alloc (.cells #[.int .i64 a, .int .i64 b, .int .i64 c, .string p] 24)).alloc (.cells #[.int .i64 0, .int .i64 0, .int .i64 0, .string ⟨#[]⟩] 24)).frozen? ⟨w.heap.size + 1, 3, none⟩ = false := by simp [go_sem]
  clear he
  cases ht : timeOk t with
  | false =>
    have HN : Hid (pseudo has ⟨a, b, c, p⟩ t id.data.toList = none) := by show pseudo _ _ _ _ = none; unfold pseudo; rw [ht]; simp
    have HT := hide ht
    clear ht
    go_enter Tryz.func29, Tryz.ntmps29
    go_wp2_with fail
    refine (rightTime_any t _ ht0 ht1 E0.out).mono ?_
    rw [HT.out]
    rintro e w1 ⟨rfl, b1⟩
    have hB1 := hB0.trans (b1.mono (by simp; omega))
    have k1 : w.heap.size + 1 < w1.heap.size := by have := b1.size; simp at this; omega
    have c10 := cellLater b1 c0
    have c11 := cellLater b1 c1
    have c12 := cellLater b1 c2
    have c13 := cellLater b1 c3
    have e10 := cellLater b1 e0
    have e11 := cellLater b1 e1
    have e12 := cellLater b1 e2
    have e13 := cellLater b1 e3
    have f10 := (b1.frozen (p := ⟨w.heap.size + 1, 0, none⟩) (by simp)).trans f0
    have f11 := (b1.frozen (p := ⟨w.heap.size + 1, 1, none⟩) (by simp)).trans f1
    have f12 := (b1.frozen (p := ⟨w.heap.size + 1, 2, none⟩) (by simp)).trans f2
    have f13 := (b1.frozen (p := ⟨w.heap.size + 1, 3, none⟩) (by simp)).trans f3
    clear c0 e0 f0 c1 e1 f1 c2 e2 f2 c3 e3 f3
    go_wp2_with fail
    exact bodyPost_ret (v := .tuple #[ver 0 0 0 ⟨#[]⟩, .bool false]) (by simp [results, Tryz.results29, go_sem, e10, e11, e12, e13]) rfl ⟨pret_none HN.out, (((hB1.setCell (by simp) _).setCell (by simp) _).setCell (by simp) _).setCell (by simp) _⟩
  | true =>
    cases hid : idOk id.data.toList with
    | false =>
      have HN : Hid (pseudo has ⟨a, b, c, p⟩ t id.data.toList = none) := by show pseudo _ _ _ _ = none; unfold pseudo; rw [hid]; simp
      have HT := hide ht
      have HI := hide hid
      clear ht hid
      go_enter Tryz.func29, Tryz.ntmps29
      go_wp2_with fail
      refine (rightTime_any t _ ht0 ht1 E0.out).mono ?_
      rw [HT.out]
      rintro e w1 ⟨rfl, b1⟩
      go_wp2_with fail
      refine (rightId_any id _ (by unfold maxLen; omega)).mono ?_
      rw [HI.out]
      rintro e w2 ⟨rfl, b2⟩
      have bb := step b1 b2
      have hB2 := hB0.trans (bb.mono (by simp; omega))
      have k2 : w.heap.size + 1 < w2.heap.size := by have := bb.size; simp at this; omega
      have c20 := cellLater bb c0
      have c21 := cellLater bb c1
      have c22 := cellLater bb c2
      have c23 := cellLater bb c3
      have e20 := cellLater bb e0
      have e21 := cellLater bb e1
      have e22 := cellLater bb e2
      have e23 := cellLater bb e3
      have f20 := (bb.frozen (p := ⟨w.heap.size + 1, 0, none⟩) (by simp)).trans f0
      have f21 := (bb.frozen (p := ⟨w.heap.size + 1, 1, none⟩) (by simp)).trans f1
      have f22 := (bb.frozen (p := ⟨w.heap.size + 1, 2, none⟩) (by simp)).trans f2
      have f23 := (bb.frozen (p := ⟨w.heap.size + 1, 3, none⟩) (by simp)).trans f3
      clear c0 e0 f0 c1 e1 f1 c2 e2 f2 c3 e3 f3
      go_wp2_with fail
      exact bodyPost_ret (v := .tuple #[ver 0 0 0 ⟨#[]⟩, .bool false]) (by simp [results, Tryz.results29, go_sem, e20, e21, e22, e23]) rfl ⟨pret_none HN.out, (((hB2.setCell (by simp) _).setCell (by simp) _).setCell (by simp) _).setCell (by simp) _⟩
    | true =>
      have h12 : 12 ≤ id.size := by have := hid; rw [idOk_eq] at this; simp only [Bool.and_eq_true, decide_eq_true_eq] at this; exact this.1.1
      have HP : Hid (pseudo has ⟨a, b, c, p⟩ t id.data.toList = if (pver has ⟨a, b, c, p⟩ t id.data.toList).ok = true then some (pver has ⟨a, b, c, p⟩ t id.data.toList) else none) := by show pseudo _ _ _ _ = _; unfold pseudo; rw [if_pos ⟨ht, hid⟩]
      have hst := (stamp_says t id.data.toList ht hid).1
      have hsz : (str (stamp t id.data.toList)).size ≤ 27 := by rw [Tx.str_size, hst]; omega
      have hps : (pver has ⟨a, b, c, p⟩ t id.data.toList).p.size ≤ 1000 := by
        have e : (pver has ⟨a, b, c, p⟩ t id.data.toList).p = str (lead has p.data.toList ++ stamp t id.data.toList) := by
          unfold pver
          cases has with
          | false => rfl
          | true => simp only [if_true]; split <;> rfl
        rw [e, Tx.str_size, List.length_append, hst]
        have : (lead has p.data.toList).length ≤ p.size + 3 := by
          unfold lead
          split
          · split
            · simp
            · simp
          · simp
        omega
      have HST := hide (fun W hW => stamp_any t id W ht h12 hi hW)
      have HBV := hide (fun W => behind_any has ⟨a, b, c, p⟩ (str (stamp t id.data.toList)) W hc (by simp only; omega) (by omega))
      have EBV : Hid (bver has ⟨a, b, c, p⟩ (str (stamp t id.data.toList)) = pver has ⟨a, b, c, p⟩ t id.data.toList) := bver_pver has ⟨a, b, c, p⟩ t id.data.toList
      rw [EBV.out] at HBV
      have HT := hide ht
      have HI := hide hid
      clear ht hid hst EBV
      generalize pver has ⟨a, b, c, p⟩ t id.data.toList = pv at *
      generalize str (stamp t id.data.toList) = xs at *
      obtain ⟨pa, pb, pc, pp⟩ := pv
      simp only at hps
      go_enter Tryz.func29, Tryz.ntmps29
      go_wp2_with fail
      refine (rightTime_any t _ ht0 ht1 E0.out).mono ?_
      rw [HT.out]
      rintro e w1 ⟨rfl, b1⟩
      go_wp2_with fail
      refine (rightId_any id _ (by unfold maxLen; omega)).mono ?_
      rw [HI.out]
      rintro e w2 ⟨rfl, b2⟩
      have bb := step b1 b2
      have hB2 := hB0.trans (bb.mono (by simp; omega))
      have E2 := hide (E0.out.later bb)
      have k2 : w.heap.size + 1 < w2.heap.size := by have := bb.size; simp at this; omega
      have c20 := cellLater bb c0
      have c21 := cellLater bb c1
      have c22 := cellLater bb c2
      have c23 := cellLater bb c3
      have e20 := cellLater bb e0
      have e21 := cellLater bb e1
      have e22 := cellLater bb e2
      have e23 := cellLater bb e3
      have f20 := (bb.frozen (p := ⟨w.heap.size + 1, 0, none⟩) (by simp)).trans f0
      have f21 := (bb.frozen (p := ⟨w.heap.size + 1, 1, none⟩) (by simp)).trans f1
      have f22 := (bb.frozen (p := ⟨w.heap.size + 1, 2, none⟩) (by simp)).trans f2
      have f23 := (bb.frozen (p := ⟨w.heap.size + 1, 3, none⟩) (by simp)).trans f3
      clear c0 e0 f0 c1 e1 f1 c2 e2 f2 c3 e3 f3
      clear bb b1 b2 hB0 E0
      have x20 := World.new_ne w2 ⟨w.heap.size, 0, none⟩ c20
      have x21 := World.new_ne w2 ⟨w.heap.size, 1, none⟩ c21
      have x22 := World.new_ne w2 ⟨w.heap.size, 2, none⟩ c22
      have x23 := World.new_ne w2 ⟨w.heap.size, 3, none⟩ c23
      go_wp2_with fail
      go_cut [10] (fun q wc => ∃ N, q = .pointer (some ⟨N, 0, none⟩) ∧ N < wc.heap.size ∧ wc.cell? ⟨N, 0, none⟩ = some (.int .i64 pa) ∧ wc.cell? ⟨N, 1, none⟩ = some (.int .i64 pb) ∧ wc.cell? ⟨N, 2, none⟩ = some (.int .i64 pc) ∧ wc.cell? ⟨N, 3, none⟩ = some (.string pp) ∧ Below w2.heap.size w2 wc)
      case first =>
        go_region_held3 (fun w' => w'.cell? ⟨w.heap.size, 0, none⟩ = some (.int .i64 a) ∧ w'.cell? ⟨w.heap.size, 1, none⟩ = some (.int .i64 b) ∧ w'.cell? ⟨w.heap.size, 2, none⟩ = some (.int .i64 c) ∧ w'.cell? ⟨w.heap.size, 3, none⟩ = some (.string p)) (first | go_keep | assumption) (first
          | (go_at_call 58; refine (HST.out _ (by first | exact E2.out.later (Below.refl _ _).drew | exact E2.out.later ((Below.refl _ _).alloc (Nat.le_refl _) _).drew)).mono ?_; rintro e w3 ⟨rfl, b3⟩; have hb3 : Below w2.heap.size w2 w3 := (by first | exact ((Below.refl _ _).drew).trans b3 | exact (((Below.refl _ _).alloc (Nat.le_refl _) _).drew).trans (b3.mono (by simp))); have d0 := cellLater hb3 c20; have d1 := cellLater hb3 c21; have d2 := cellLater hb3 c22; have d3 := cellLater hb3 c23; have x30 := World.new_ne w3 ⟨w.heap.size, 0, none⟩ d0; have x31 := World.new_ne w3 ⟨w.heap.size, 1, none⟩ d1; have x32 := World.new_ne w3 ⟨w.heap.size, 2, none⟩ d2; have x33 := World.new_ne w3 ⟨w.heap.size, 3, none⟩ d3; first | (refine cutIn (ZeroAt.later (w' := w3) (ZeroAt.newd w2) ?_) (fun za3 => ?_); (assumption)) | skip)
          | (go_at_call 57; refine (HBV.out _).mono ?_; rintro e w4 ⟨rfl, b4⟩; have hb4 : Below w2.heap.size w2 w4 := (by first | exact step hb3 b4 | exact (hb3.alloc hb3.size _).trans (b4.mono (by simp; have := hb3.size; omega))); have g0 := cellLater hb4 c20; have g1 := cellLater hb4 c21; have g2 := cellLater hb4 c22; have g3 := cellLater hb4 c23; have x40 := World.new_ne w4 ⟨w.heap.size, 0, none⟩ g0; have x41 := World.new_ne w4 ⟨w.heap.size, 1, none⟩ g1; have x42 := World.new_ne w4 ⟨w.heap.size, 2, none⟩ g2; have x43 := World.new_ne w4 ⟨w.heap.size, 3, none⟩ g3; first | (refine cutIn (ZeroAt.later (w' := w4) (ZeroAt.new w3) ?_) (fun za => ?_); (assumption); obtain ⟨u4, a40, a41, a42, a43, z40, z41, z42, z43⟩ := za) | (refine cutIn (ZeroAt.later (w := w3) (N := w2.heap.size) ?_ b4) (fun za => ?_); (assumption); obtain ⟨u4, a40, a41, a42, a43, z40, z41, z42, z43⟩ := za) | skip))
        · go_wp2_with fail
          go_meet
          case rel => exact ⟨w4.heap.size, rfl, by simp, by simp [go_sem], by simp [go_sem], by simp [go_sem], by simp [go_sem], hb4.alloc hb4.size _⟩
        · go_wp2_with fail
          go_meet
          case rel => exact ⟨w3.heap.size, rfl, by simpa [World.setCell] using u4, by simp [go_sem, a40, a41, a42, a43], by simp [go_sem, a40, a41, a42, a43], by simp [go_sem, a40, a41, a42, a43], by simp [go_sem, a40, a41, a42, a43], (((hb4.setCell hb3.size _).setCell hb3.size _).setCell hb3.size _).setCell hb3.size _⟩
        · go_wp2_with fail
          go_meet
          case rel => exact ⟨w2.heap.size, rfl, by simpa [World.setCell] using u4, by simp [go_sem, a40, a41, a42, a43], by simp [go_sem, a40, a41, a42, a43], by simp [go_sem, a40, a41, a42, a43], by simp [go_sem, a40, a41, a42, a43], (((hb4.setCell (Nat.le_refl _) _).setCell (Nat.le_refl _) _).setCell (Nat.le_refl _) _).setCell (Nat.le_refl _) _⟩
      case rest =>
        obtain ⟨N, rfl, hN, v0, v1, v2, v3, hb3⟩ := hcut
        have hB3 := step hB2 hb3
        have E3 := hide (E2.out.later hb3)
        have k3 : w.heap.size + 1 < wc.heap.size := by have := hb3.size; omega
        have e30 := cellLater hb3 e20
        have e31 := cellLater hb3 e21
        have e32 := cellLater hb3 e22
        have e33 := cellLater hb3 e23
        have f30 := (hb3.frozen (p := ⟨w.heap.size + 1, 0, none⟩) k2).trans f20
        have f31 := (hb3.frozen (p := ⟨w.heap.size + 1, 1, none⟩) k2).trans f21
        have f32 := (hb3.frozen (p := ⟨w.heap.size + 1, 2, none⟩) k2).trans f22
        have f33 := (hb3.frozen (p := ⟨w.heap.size + 1, 3, none⟩) k2).trans f23
        clear c20 e20 f20 x20 c21 e21 f21 x21 c22 e22 f22 x22 c23 e23 f23 x23 hB2 E2 hb3 HST HBV k2
        cases hok : V.ok ⟨pa, pb, pc, pp⟩ with
        | false =>
          have HN : Hid (pseudo has ⟨a, b, c, p⟩ t id.data.toList = none) := by show pseudo _ _ _ _ = none; rw [HP.out, if_neg (by rw [hok]; decide)]
          have HK := hide hok
          clear hok
          go_wp2_with fail
          refine (right_any ⟨pa, pb, pc, pp⟩ _ (by unfold maxLen; simp only; omega) E3.out).mono ?_
          rw [HK.out]
          rintro e w4 ⟨rfl, b4⟩
          have hB4 := step hB3 b4
          have k4 : w.heap.size + 1 < w4.heap.size := by have := b4.size; omega
          have e40 := cellLater b4 e30
          have e41 := cellLater b4 e31
          have e42 := cellLater b4 e32
          have e43 := cellLater b4 e33
          have v40 := cellLater b4 v0
          have v41 := cellLater b4 v1
          have v42 := cellLater b4 v2
          have v43 := cellLater b4 v3
          have f40 := (b4.frozen (p := ⟨w.heap.size + 1, 0, none⟩) k3).trans f30
          have f41 := (b4.frozen (p := ⟨w.heap.size + 1, 1, none⟩) k3).trans f31
          have f42 := (b4.frozen (p := ⟨w.heap.size + 1, 2, none⟩) k3).trans f32
          have f43 := (b4.frozen (p := ⟨w.heap.size + 1, 3, none⟩) k3).trans f33
          clear e30 f30 v0 e31 f31 v1 e32 f32 v2 e33 f33 v3
          go_wp2_with fail
          exact bodyPost_ret (v := .tuple #[ver 0 0 0 ⟨#[]⟩, .bool false]) (by simp [results, Tryz.results29, go_sem, e40, e41, e42, e43]) rfl ⟨pret_none HN.out, (((hB4.setCell (by simp) _).setCell (by simp) _).setCell (by simp) _).setCell (by simp) _⟩
        | true =>
          have HN : Hid (pseudo has ⟨a, b, c, p⟩ t id.data.toList = some ⟨pa, pb, pc, pp⟩) := by show pseudo _ _ _ _ = _; rw [HP.out, if_pos hok]
          have HK := hide hok
          clear hok
          go_wp2_with fail
          refine (right_any ⟨pa, pb, pc, pp⟩ _ (by unfold maxLen; simp only; omega) E3.out).mono ?_
          rw [HK.out]
          rintro e w4 ⟨rfl, b4⟩
          have hB4 := step hB3 b4
          have k4 : w.heap.size + 1 < w4.heap.size := by have := b4.size; omega
          have e40 := cellLater b4 e30
          have e41 := cellLater b4 e31
          have e42 := cellLater b4 e32
          have e43 := cellLater b4 e33
          have v40 := cellLater b4 v0
          have v41 := cellLater b4 v1
          have v42 := cellLater b4 v2
          have v43 := cellLater b4 v3
          have f40 := (b4.frozen (p := ⟨w.heap.size + 1, 0, none⟩) k3).trans f30
          have f41 := (b4.frozen (p := ⟨w.heap.size + 1, 1, none⟩) k3).trans f31
          have f42 := (b4.frozen (p := ⟨w.heap.size + 1, 2, none⟩) k3).trans f32
          have f43 := (b4.frozen (p := ⟨w.heap.size + 1, 3, none⟩) k3).trans f33
          clear e30 f30 v0 e31 f31 v1 e32 f32 v2 e33 f33 v3
          go_wp2_with fail
          exact bodyPost_ret (v := .tuple #[ver pa pb pc pp, .bool true]) (by simp [results, Tryz.results29, go_sem, e40, e41, e42, e43]) rfl ⟨pret_some HN.out, (((hB4.setCell (by simp) _).setCell (by simp) _).setCell (by simp) _).setCell (by simp) _⟩

end Go.Proofs.YtiicikieemfcmaaGreatDoor
