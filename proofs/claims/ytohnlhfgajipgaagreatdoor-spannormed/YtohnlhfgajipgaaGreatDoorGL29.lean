/-
  The walk of SpanNormed.
-/
import Derived.Test.YtohnlhfgajipgaaGreatDoorG31
import Derived.BigQuiet
import Derived.Deep.CutBlock

namespace Go.Proofs.YtohnlhfgajipgaaGreatDoor.spanNormed
set_option linter.unusedSimpArgs false
set_option linter.unusedVariables false
open Go.RowKit Go.Vr Go.Sort Go.Tx Go.Lib
attribute [local go_sem] setCellDrewN allocDrewN

theorem norm_sl (W : World) (ad : Option Addr) (n cp : Nat) (l : List Sp.S) (B : Nat) (h : SR W ad n l B) (hB : B ≤ 1000) :
    Calls Tryz.prog 36 #[.slice ad n cp] W fun e w' => ∃ a2 n2 c2, e = .returned (.slice a2 n2 c2) ∧ SR w' a2 n2 l B ∧ RowKit.Below W.heap.size W w' := by
  have hle := h.le
  have hn := h.r.n
  have hmap : (l.map pt).map pS = l := by
    rw [List.map_map]
    conv => rhs; rw [← List.map_id l]
    exact List.map_congr_left fun s hs => pS_pt (h.row.ok s hs)
  refine (rnorm_any ad n cp (l.map pt) W h.r.pts (by omega) (fun q hq => by obtain ⟨s, hs, rfl⟩ := List.mem_map.1 hq; exact okPt_pt (h.row.ok s hs))).mono ?_
  rintro e w' ⟨v', rfl, o, hb⟩
  rw [hmap, Sp.nrm_same h.row.nm] at o
  obtain ⟨a2, n2, c2, rfl, h2⟩ := SR.of (B := B) o h.row (by omega)
  exact ⟨a2, n2, c2, rfl, h2, hb⟩
/-- An open one's parts; it is the last. -/
theorem open_parts {s : Sp.S} (hz : (pt s).z = true) : (pt s).y = false ∧ (pt s).a' = 0 ∧ (pt s).b' = 0 ∧ (pt s).c' = 0 ∧ (pt s).p' = ⟨#[]⟩ ∧ s.2 = none := by
  obtain ⟨s1, s2⟩ := s
  cases s2 with
  | none => exact ⟨rfl, rfl, rfl, rfl, rfl, rfl⟩
  | some p => exact nomatch hz

set_option maxHeartbeats 16000000 in
set_option maxRecDepth 100000 in
theorem walk (a0 : Option Addr) (len0 cap0 : Nat) (z0 : List Int) (a1 : Option Addr) (len1 cap1 : Nat) (z1 : List Int) (w : World) (he : Env w) (w0 : IsRow .i64 w a0 len0 cap0 z0) (w1 : IsRow .i64 w a1 len1 cap1 z1) :
    Calls Tryz.prog 8 #[.slice a0 len0 cap0, .slice a1 len1 cap1] w fun e w' => e = .returned (.bool true) ∧ RowKit.Below w.heap.size w w' := by
  have HE := hide he
  have R0 := hide w0.row
  have R1 := hide w1.row
  clear he w0 w1
  go_enter Tryz.func8, Tryz.ntmps8
  go_wp2_with fail
  refine (known3_any w HE.out).mono ?_
  rintro e W0 ⟨rfl, b⟩
  have B := hide b
  clear b
  go_wp2_with fail
  refine (mk_sl _ _ _ _ _ (R0.out.later B.out)).mono ?_
  rintro e W1 ⟨ada, na, ca, la, rfl, r, b⟩
  replace B := hide (step B.out b)
  have Sa := hide r
  clear b r
  go_wp2_with fail
  refine (mk_sl _ _ _ _ _ (R1.out.later B.out)).mono ?_
  rintro e W2 ⟨adb, nb, cb, lb, rfl, r, b⟩
  replace Sa := hide (Sa.out.later b)
  replace B := hide (step B.out b)
  have Sb := hide r
  clear b r
  go_wp2_with fail
  refine (and_sl _ (HE.out.later B.out) _ _ _ _ _ _ _ _ _ _ Sa.out Sb.out (by omega) (by omega)).mono ?_
  rintro e W3 ⟨adx, nx, cx, rfl, r, b⟩
  replace Sa := hide (Sa.out.later b)
  replace Sb := hide (Sb.out.later b)
  replace B := hide (step B.out b)
  have Sx := hide r
  clear b r
  go_wp2_with fail
  refine (or2_sl _ (HE.out.later B.out) _ _ _ _ _ _ _ _ _ _ Sa.out Sb.out (by omega) (by omega)).mono ?_
  rintro e W4 ⟨ady, ny, cy, rfl, r, b⟩
  replace Sa := hide (Sa.out.later b)
  replace Sb := hide (Sb.out.later b)
  replace Sx := hide (Sx.out.later b)
  replace B := hide (step B.out b)
  have Sy := hide r
  clear b r
  go_wp2_with fail
  refine (not_sl _ (HE.out.later B.out) _ _ _ _ _ Sa.out (by omega)).mono ?_
  rintro e W5 ⟨adz, nz, cz, rfl, r, b⟩
  replace Sa := hide (Sa.out.later b)
  replace Sb := hide (Sb.out.later b)
  replace Sx := hide (Sx.out.later b)
  replace Sy := hide (Sy.out.later b)
  replace B := hide (step B.out b)
  have Sz := hide r
  clear b r
  go_wp2_with fail
  have HX0 := Box.new W5 #[.slice adx nx cx, .slice ady ny cy, .slice adz nz cz] 24
  have hba : RowKit.Below W5.heap.size W5 (W5.alloc (.cells #[.slice adx nx cx, .slice ady ny cy, .slice adz nz cz] 24)) := (by repeat (first | with_reducible assumption | with_reducible exact Below.refl _ _ | with_reducible refine Below.setCell ?_ (by first | exact Nat.le_refl _ | (simp; done) | (simp; omega)) _ | with_reducible refine bal ?_ _ | with_reducible refine Below.alloc ?_ (by first | exact Nat.le_refl _ | (simp; done) | (simp; omega)) _ | with_reducible refine Below.drew ?_))
  replace Sx := hide (Sx.out.later hba)
  replace Sy := hide (Sy.out.later hba)
  replace Sz := hide (Sz.out.later hba)
  replace B := hide (step B.out hba)
  generalize hWb : W5.alloc (.cells #[.slice adx nx cx, .slice ady ny cy, .slice adz nz cz] 24) = Wb at *
  generalize W5.heap.size = N at *
  have HX := hide HX0
  clear HX0 hba hWb Sa Sb R0 R1 HE
  generalize Sp.allL [la, lb] = Lx at *
  generalize Sp.nrm [la, lb].flatten = Ly at *
  generalize Sp.notL la = Lz at *
  go_loopw [8] (fun s wr => ∃ i : Nat, i ≤ 3 ∧ s = .int .i64 i ∧ RowKit.Below Wb.heap.size Wb wr) (fun s _ => 3 - (RowKit.intOf s).toNat)
  case atStart => exact ⟨0, by omega, rfl, RowKit.Below.refl _ _⟩
  case round =>
    obtain ⟨i, hi, rfl, hBr⟩ := hrel
    have HBr := hide hBr
    clear hBr
    have hi4 : i = 0 ∨ i = 1 ∨ i = 2 ∨ i = 3 := by omega
    clear hi
    rcases hi4 with rfl | rfl | rfl | rfl
    · have SV := hide (Sx.out.later HBr.out)
      have KX : ∀ w', RowKit.Below wr.heap.size wr w' → ∀ j, w'.cell? ⟨N, j, none⟩ = (#[.slice adx nx cx, .slice ady ny cy, .slice adz nz cz] : Array Value)[j]? := fun w' h => (HX.out.later (step HBr.out h)).c
      have hB0 := RowKit.Below.refl wr.heap.size wr
      go_wp2_with fail
      go_region_held3 (fun w' => RowKit.Below wr.heap.size wr w') (first | assumption | exact (by repeat (first | with_reducible assumption | with_reducible exact Below.refl _ _ | with_reducible refine Below.setCell ?_ (by first | exact Nat.le_refl _ | (simp; done) | (simp; omega)) _ | with_reducible refine bal ?_ _ | with_reducible refine Below.alloc ?_ (by first | exact Nat.le_refl _ | (simp; done) | (simp; omega)) _ | with_reducible refine Below.drew ?_))) (first
        | (go_at_call 36; refine (norm_sl _ _ _ _ _ _ (SV.out.later (by first | assumption | exact (by repeat (first | with_reducible assumption | with_reducible exact Below.refl _ _ | with_reducible refine Below.setCell ?_ (by first | exact Nat.le_refl _ | (simp; done) | (simp; omega)) _ | with_reducible refine bal ?_ _ | with_reducible refine Below.alloc ?_ (by first | exact Nat.le_refl _ | (simp; done) | (simp; omega)) _ | with_reducible refine Below.drew ?_)))) (by omega)).mono ?_; rintro e w5 ⟨a2, n2, c2, rfl, r5, b5⟩; have R5 := hide r5; clear r5; have b5 : RowKit.Below wr.heap.size wr w5 := (by refine Below.trans ?_ (Below.mono b5 ?_); rotate_left; exact Below.size (by with_reducible assumption); with_reducible assumption))
        | (go_at_call 19; refine (same_sl _ _ _ _ _ _ _ _ _ _ _ (SV.out.later (by first | assumption | exact (by repeat (first | with_reducible assumption | with_reducible exact Below.refl _ _ | with_reducible refine Below.setCell ?_ (by first | exact Nat.le_refl _ | (simp; done) | (simp; omega)) _ | with_reducible refine bal ?_ _ | with_reducible refine Below.alloc ?_ (by first | exact Nat.le_refl _ | (simp; done) | (simp; omega)) _ | with_reducible refine Below.drew ?_)))) R5.out (by omega) rfl).mono ?_; rintro e w6 ⟨rfl, b6⟩; have b6 : RowKit.Below wr.heap.size wr w6 := (by refine Below.trans ?_ (Below.mono b6 ?_); rotate_left; exact Below.size (by with_reducible assumption); with_reducible assumption)))
      rename_i hHeld
      have HH := hide (step HBr.out b6)
      have HSV := hide (Sx.out.later HH.out)
      clear KX hB0 hHeld SV R5 b5 b6 HBr
      go_wp2_with fail
      go_loopw [9] (fun s wq => ∃ k : Nat, k ≤ nx ∧ s = .int .i64 k ∧ RowKit.Below Wb.heap.size Wb wq) (fun s _ => nx - (RowKit.intOf s).toNat)
      case atStart => exact ⟨0, by omega, rfl, HH.out⟩
      case round =>
        clear HH HSV
        obtain ⟨k, hk, rfl, hBq⟩ := hrel
        have HBq := hide hBq
        have hn9 : nx ≤ 100 := Nat.le_trans Sx.out.le (by omega)
        have cX := (HX.out.later hBq).c
        have cXA := fun o => ((HX.out.later hBq).alloc o).c
        have hNe : ¬ N = wr.heap.size := by have := (HX.out.later hBq).lt; omega
        have hNe2 : ¬ wr.heap.size = N := fun e => hNe e.symm
        clear hBq
        by_cases hlt : k < nx
        · have r := (Sx.out.later HBq.out).r
          obtain ⟨g, off, e⟩ := r.spot (by omega)
          have hlk : k < Lx.length := by rw [r.n]; exact hlt
          rw [e] at r
          obtain ⟨d0, d1, d2, d3, d4, d5, d6, d7, d8, d9, d10⟩ := ES_at r k Lx[k] (List.getElem?_eq_getElem hlk)
          have HOP : Hid (Lx[k].2 = none → k + 1 = nx) := fun h => by rw [← r.n]; exact Sp.open_last Sx.out.row.nm k Lx[k] (List.getElem?_eq_getElem hlk) h
          have hop := @open_parts Lx[k]
          generalize Lx[k] = s at *
          rw [e] at cX cXA
          have i1 : (0 : Int) ≤ (k : Int) := by omega
          have i2 : (k : Int) < (nx : Int) := by omega
          cases hz : (pt s).z with
          | false =>
            rw [hz] at d10
            clear hop HOP hz r
            generalize pt s = q at *
            rw [e]
            go_wp2_with fail
            go_roundw
            case rel => exact ⟨k + 1, by omega, by go_num, step HBq.out ((by repeat (first | with_reducible assumption | with_reducible exact Below.refl _ _ | with_reducible refine Below.setCell ?_ (by first | exact Nat.le_refl _ | (simp; done) | (simp; omega)) _ | with_reducible refine bal ?_ _ | with_reducible refine Below.alloc ?_ (by first | exact Nat.le_refl _ | (simp; done) | (simp; omega)) _ | with_reducible refine Below.drew ?_)))⟩
            case measure => simp [RowKit.intOf]; omega
          | true =>
            obtain ⟨q1, q2, q3, q4, q5, q6⟩ := hop hz
            have hk1 := HOP.out q6
            have i3 : decide ((k : Int) + 1 < (nx : Int)) = false := by simp; omega
            have i4 : ¬ (k : Int) + 1 < (nx : Int) := by omega
            rw [hz] at d10
            rw [q1] at d9
            rw [q2] at d4
            rw [q3] at d5
            rw [q4] at d6
            rw [q5] at d7
            clear hop HOP hz r q1 q2 q3 q4 q5 q6
            generalize pt s = q at *
            rw [e]
            go_wp2_with fail
            go_roundw
            case rel => exact ⟨k + 1, by omega, by go_num, step HBq.out ((by repeat (first | with_reducible assumption | with_reducible exact Below.refl _ _ | with_reducible refine Below.setCell ?_ (by first | exact Nat.le_refl _ | (simp; done) | (simp; omega)) _ | with_reducible refine bal ?_ _ | with_reducible refine Below.alloc ?_ (by first | exact Nat.le_refl _ | (simp; done) | (simp; omega)) _ | with_reducible refine Below.drew ?_)))⟩
            case measure => simp [RowKit.intOf]; omega
        · have hd : decide ((k : Int) < (nx : Int)) = false := by simp; omega
          go_wp2_with fail
          go_roundw
          case rel => exact ⟨0 + 1, by omega, rfl, HBq.out⟩
          case measure => simp [RowKit.intOf]
    · have SV := hide (Sy.out.later HBr.out)
      have KX : ∀ w', RowKit.Below wr.heap.size wr w' → ∀ j, w'.cell? ⟨N, j, none⟩ = (#[.slice adx nx cx, .slice ady ny cy, .slice adz nz cz] : Array Value)[j]? := fun w' h => (HX.out.later (step HBr.out h)).c
      have hB0 := RowKit.Below.refl wr.heap.size wr
      go_wp2_with fail
      go_region_held3 (fun w' => RowKit.Below wr.heap.size wr w') (first | assumption | exact (by repeat (first | with_reducible assumption | with_reducible exact Below.refl _ _ | with_reducible refine Below.setCell ?_ (by first | exact Nat.le_refl _ | (simp; done) | (simp; omega)) _ | with_reducible refine bal ?_ _ | with_reducible refine Below.alloc ?_ (by first | exact Nat.le_refl _ | (simp; done) | (simp; omega)) _ | with_reducible refine Below.drew ?_))) (first
        | (go_at_call 36; refine (norm_sl _ _ _ _ _ _ (SV.out.later (by first | assumption | exact (by repeat (first | with_reducible assumption | with_reducible exact Below.refl _ _ | with_reducible refine Below.setCell ?_ (by first | exact Nat.le_refl _ | (simp; done) | (simp; omega)) _ | with_reducible refine bal ?_ _ | with_reducible refine Below.alloc ?_ (by first | exact Nat.le_refl _ | (simp; done) | (simp; omega)) _ | with_reducible refine Below.drew ?_)))) (by omega)).mono ?_; rintro e w5 ⟨a2, n2, c2, rfl, r5, b5⟩; have R5 := hide r5; clear r5; have b5 : RowKit.Below wr.heap.size wr w5 := (by refine Below.trans ?_ (Below.mono b5 ?_); rotate_left; exact Below.size (by with_reducible assumption); with_reducible assumption))
        | (go_at_call 19; refine (same_sl _ _ _ _ _ _ _ _ _ _ _ (SV.out.later (by first | assumption | exact (by repeat (first | with_reducible assumption | with_reducible exact Below.refl _ _ | with_reducible refine Below.setCell ?_ (by first | exact Nat.le_refl _ | (simp; done) | (simp; omega)) _ | with_reducible refine bal ?_ _ | with_reducible refine Below.alloc ?_ (by first | exact Nat.le_refl _ | (simp; done) | (simp; omega)) _ | with_reducible refine Below.drew ?_)))) R5.out (by omega) rfl).mono ?_; rintro e w6 ⟨rfl, b6⟩; have b6 : RowKit.Below wr.heap.size wr w6 := (by refine Below.trans ?_ (Below.mono b6 ?_); rotate_left; exact Below.size (by with_reducible assumption); with_reducible assumption)))
      rename_i hHeld
      have HH := hide (step HBr.out b6)
      have HSV := hide (Sy.out.later HH.out)
      clear KX hB0 hHeld SV R5 b5 b6 HBr
      go_wp2_with fail
      go_loopw [9] (fun s wq => ∃ k : Nat, k ≤ ny ∧ s = .int .i64 k ∧ RowKit.Below Wb.heap.size Wb wq) (fun s _ => ny - (RowKit.intOf s).toNat)
      case atStart => exact ⟨0, by omega, rfl, HH.out⟩
      case round =>
        clear HH HSV
        obtain ⟨k, hk, rfl, hBq⟩ := hrel
        have HBq := hide hBq
        have hn9 : ny ≤ 100 := Nat.le_trans Sy.out.le (by omega)
        have cX := (HX.out.later hBq).c
        have cXA := fun o => ((HX.out.later hBq).alloc o).c
        have hNe : ¬ N = wr.heap.size := by have := (HX.out.later hBq).lt; omega
        have hNe2 : ¬ wr.heap.size = N := fun e => hNe e.symm
        clear hBq
        by_cases hlt : k < ny
        · have r := (Sy.out.later HBq.out).r
          obtain ⟨g, off, e⟩ := r.spot (by omega)
          have hlk : k < Ly.length := by rw [r.n]; exact hlt
          rw [e] at r
          obtain ⟨d0, d1, d2, d3, d4, d5, d6, d7, d8, d9, d10⟩ := ES_at r k Ly[k] (List.getElem?_eq_getElem hlk)
          have HOP : Hid (Ly[k].2 = none → k + 1 = ny) := fun h => by rw [← r.n]; exact Sp.open_last Sy.out.row.nm k Ly[k] (List.getElem?_eq_getElem hlk) h
          have hop := @open_parts Ly[k]
          generalize Ly[k] = s at *
          rw [e] at cX cXA
          have i1 : (0 : Int) ≤ (k : Int) := by omega
          have i2 : (k : Int) < (ny : Int) := by omega
          cases hz : (pt s).z with
          | false =>
            rw [hz] at d10
            clear hop HOP hz r
            generalize pt s = q at *
            rw [e]
            go_wp2_with fail
            go_roundw
            case rel => exact ⟨k + 1, by omega, by go_num, step HBq.out ((by repeat (first | with_reducible assumption | with_reducible exact Below.refl _ _ | with_reducible refine Below.setCell ?_ (by first | exact Nat.le_refl _ | (simp; done) | (simp; omega)) _ | with_reducible refine bal ?_ _ | with_reducible refine Below.alloc ?_ (by first | exact Nat.le_refl _ | (simp; done) | (simp; omega)) _ | with_reducible refine Below.drew ?_)))⟩
            case measure => simp [RowKit.intOf]; omega
          | true =>
            obtain ⟨q1, q2, q3, q4, q5, q6⟩ := hop hz
            have hk1 := HOP.out q6
            have i3 : decide ((k : Int) + 1 < (ny : Int)) = false := by simp; omega
            have i4 : ¬ (k : Int) + 1 < (ny : Int) := by omega
            rw [hz] at d10
            rw [q1] at d9
            rw [q2] at d4
            rw [q3] at d5
            rw [q4] at d6
            rw [q5] at d7
            clear hop HOP hz r q1 q2 q3 q4 q5 q6
            generalize pt s = q at *
            rw [e]
            go_wp2_with fail
            go_roundw
            case rel => exact ⟨k + 1, by omega, by go_num, step HBq.out ((by repeat (first | with_reducible assumption | with_reducible exact Below.refl _ _ | with_reducible refine Below.setCell ?_ (by first | exact Nat.le_refl _ | (simp; done) | (simp; omega)) _ | with_reducible refine bal ?_ _ | with_reducible refine Below.alloc ?_ (by first | exact Nat.le_refl _ | (simp; done) | (simp; omega)) _ | with_reducible refine Below.drew ?_)))⟩
            case measure => simp [RowKit.intOf]; omega
        · have hd : decide ((k : Int) < (ny : Int)) = false := by simp; omega
          go_wp2_with fail
          go_roundw
          case rel => exact ⟨1 + 1, by omega, rfl, HBq.out⟩
          case measure => simp [RowKit.intOf]
    · have SV := hide (Sz.out.later HBr.out)
      have KX : ∀ w', RowKit.Below wr.heap.size wr w' → ∀ j, w'.cell? ⟨N, j, none⟩ = (#[.slice adx nx cx, .slice ady ny cy, .slice adz nz cz] : Array Value)[j]? := fun w' h => (HX.out.later (step HBr.out h)).c
      have hB0 := RowKit.Below.refl wr.heap.size wr
      go_wp2_with fail
      go_region_held3 (fun w' => RowKit.Below wr.heap.size wr w') (first | assumption | exact (by repeat (first | with_reducible assumption | with_reducible exact Below.refl _ _ | with_reducible refine Below.setCell ?_ (by first | exact Nat.le_refl _ | (simp; done) | (simp; omega)) _ | with_reducible refine bal ?_ _ | with_reducible refine Below.alloc ?_ (by first | exact Nat.le_refl _ | (simp; done) | (simp; omega)) _ | with_reducible refine Below.drew ?_))) (first
        | (go_at_call 36; refine (norm_sl _ _ _ _ _ _ (SV.out.later (by first | assumption | exact (by repeat (first | with_reducible assumption | with_reducible exact Below.refl _ _ | with_reducible refine Below.setCell ?_ (by first | exact Nat.le_refl _ | (simp; done) | (simp; omega)) _ | with_reducible refine bal ?_ _ | with_reducible refine Below.alloc ?_ (by first | exact Nat.le_refl _ | (simp; done) | (simp; omega)) _ | with_reducible refine Below.drew ?_)))) (by omega)).mono ?_; rintro e w5 ⟨a2, n2, c2, rfl, r5, b5⟩; have R5 := hide r5; clear r5; have b5 : RowKit.Below wr.heap.size wr w5 := (by refine Below.trans ?_ (Below.mono b5 ?_); rotate_left; exact Below.size (by with_reducible assumption); with_reducible assumption))
        | (go_at_call 19; refine (same_sl _ _ _ _ _ _ _ _ _ _ _ (SV.out.later (by first | assumption | exact (by repeat (first | with_reducible assumption | with_reducible exact Below.refl _ _ | with_reducible refine Below.setCell ?_ (by first | exact Nat.le_refl _ | (simp; done) | (simp; omega)) _ | with_reducible refine bal ?_ _ | with_reducible refine Below.alloc ?_ (by first | exact Nat.le_refl _ | (simp; done) | (simp; omega)) _ | with_reducible refine Below.drew ?_)))) R5.out (by omega) rfl).mono ?_; rintro e w6 ⟨rfl, b6⟩; have b6 : RowKit.Below wr.heap.size wr w6 := (by refine Below.trans ?_ (Below.mono b6 ?_); rotate_left; exact Below.size (by with_reducible assumption); with_reducible assumption)))
      rename_i hHeld
      have HH := hide (step HBr.out b6)
      have HSV := hide (Sz.out.later HH.out)
      clear KX hB0 hHeld SV R5 b5 b6 HBr
      go_wp2_with fail
      go_loopw [9] (fun s wq => ∃ k : Nat, k ≤ nz ∧ s = .int .i64 k ∧ RowKit.Below Wb.heap.size Wb wq) (fun s _ => nz - (RowKit.intOf s).toNat)
      case atStart => exact ⟨0, by omega, rfl, HH.out⟩
      case round =>
        clear HH HSV
        obtain ⟨k, hk, rfl, hBq⟩ := hrel
        have HBq := hide hBq
        have hn9 : nz ≤ 100 := Nat.le_trans Sz.out.le (by omega)
        have cX := (HX.out.later hBq).c
        have cXA := fun o => ((HX.out.later hBq).alloc o).c
        have hNe : ¬ N = wr.heap.size := by have := (HX.out.later hBq).lt; omega
        have hNe2 : ¬ wr.heap.size = N := fun e => hNe e.symm
        clear hBq
        by_cases hlt : k < nz
        · have r := (Sz.out.later HBq.out).r
          obtain ⟨g, off, e⟩ := r.spot (by omega)
          have hlk : k < Lz.length := by rw [r.n]; exact hlt
          rw [e] at r
          obtain ⟨d0, d1, d2, d3, d4, d5, d6, d7, d8, d9, d10⟩ := ES_at r k Lz[k] (List.getElem?_eq_getElem hlk)
          have HOP : Hid (Lz[k].2 = none → k + 1 = nz) := fun h => by rw [← r.n]; exact Sp.open_last Sz.out.row.nm k Lz[k] (List.getElem?_eq_getElem hlk) h
          have hop := @open_parts Lz[k]
          generalize Lz[k] = s at *
          rw [e] at cX cXA
          have i1 : (0 : Int) ≤ (k : Int) := by omega
          have i2 : (k : Int) < (nz : Int) := by omega
          cases hz : (pt s).z with
          | false =>
            rw [hz] at d10
            clear hop HOP hz r
            generalize pt s = q at *
            rw [e]
            go_wp2_with fail
            go_roundw
            case rel => exact ⟨k + 1, by omega, by go_num, step HBq.out ((by repeat (first | with_reducible assumption | with_reducible exact Below.refl _ _ | with_reducible refine Below.setCell ?_ (by first | exact Nat.le_refl _ | (simp; done) | (simp; omega)) _ | with_reducible refine bal ?_ _ | with_reducible refine Below.alloc ?_ (by first | exact Nat.le_refl _ | (simp; done) | (simp; omega)) _ | with_reducible refine Below.drew ?_)))⟩
            case measure => simp [RowKit.intOf]; omega
          | true =>
            obtain ⟨q1, q2, q3, q4, q5, q6⟩ := hop hz
            have hk1 := HOP.out q6
            have i3 : decide ((k : Int) + 1 < (nz : Int)) = false := by simp; omega
            have i4 : ¬ (k : Int) + 1 < (nz : Int) := by omega
            rw [hz] at d10
            rw [q1] at d9
            rw [q2] at d4
            rw [q3] at d5
            rw [q4] at d6
            rw [q5] at d7
            clear hop HOP hz r q1 q2 q3 q4 q5 q6
            generalize pt s = q at *
            rw [e]
            go_wp2_with fail
            go_roundw
            case rel => exact ⟨k + 1, by omega, by go_num, step HBq.out ((by repeat (first | with_reducible assumption | with_reducible exact Below.refl _ _ | with_reducible refine Below.setCell ?_ (by first | exact Nat.le_refl _ | (simp; done) | (simp; omega)) _ | with_reducible refine bal ?_ _ | with_reducible refine Below.alloc ?_ (by first | exact Nat.le_refl _ | (simp; done) | (simp; omega)) _ | with_reducible refine Below.drew ?_)))⟩
            case measure => simp [RowKit.intOf]; omega
        · have hd : decide ((k : Int) < (nz : Int)) = false := by simp; omega
          go_wp2_with fail
          go_roundw
          case rel => exact ⟨2 + 1, by omega, rfl, HBq.out⟩
          case measure => simp [RowKit.intOf]
    · go_wp2_with fail
      go_ret
      exact ⟨rfl, step B.out HBr.out⟩
end Go.Proofs.YtohnlhfgajipgaaGreatDoor.spanNormed
