/-
  Contract of the reference's Has.
-/
import Derived.Test.YtmaklmgjkmbedaaGreatDoorQ6
import Derived.Test.YtmaklmgjkmbedaaGreatDoorM26
import Derived.BigQuiet
namespace Go.Proofs.YtmaklmgjkmbedaaGreatDoor
set_option linter.unusedSimpArgs false
set_option linter.unusedVariables false
open Go.RowKit Go.Vr Go.Sort Go.Tx Go.Lib
attribute [local go_sem] setCellDrewN allocDrewN

theorem has_is (q : Pt) (v : V) : inSp (some (v, false)) (pS q) = ((decide (cmpV q.lv v < 0) || (cmpV q.lv v == 0 && !q.x)) && (q.z || (decide (cmpV v q.hv < 0) || (cmpV v q.hv == 0 && q.y)))) := by
  have hb := ord_ver.bd q.lv v
  have hb2 := ord_ver.bd v q.hv
  unfold inSp
  have e1 : decide (Sp.cmpC (pS q).1 (some (v, false)) ≤ 0) = (decide (cmpV q.lv v < 0) || (cmpV q.lv v == 0 && !q.x)) := by
    show decide (Vr.seq (cmpV q.lv v) (Sp.cmpB q.x false) ≤ 0) = _
    generalize cmpV q.lv v = k at *
    have : k = -1 ∨ k = 0 ∨ k = 1 := by omega
    rcases this with rfl | rfl | rfl <;> cases q.x <;> decide
  have e2 : decide (Sp.cmpC (some (v, false)) (pS q).2 < 0) = (q.z || (decide (cmpV v q.hv < 0) || (cmpV v q.hv == 0 && q.y))) := by
    unfold pS
    cases q.z with
    | true => rfl
    | false =>
      show decide (Vr.seq (cmpV v q.hv) (Sp.cmpB false q.y) < 0) = _
      generalize cmpV v q.hv = k at *
      have : k = -1 ∨ k = 0 ∨ k = 1 := by omega
      rcases this with rfl | rfl | rfl <;> cases q.y <;> decide
  rw [e1, e2]


set_option maxHeartbeats 8000000 in
set_option maxRecDepth 100000 in
theorem rhas_sl (W : World) (ad : Option Addr) (n cp : Nat) (l : List Sp.S) (B : Nat) (v : V) (h : SR W ad n l B) (hB : B ≤ 1000) (hv : v.ok = true) :
    Calls Tryz.prog 25 #[.slice ad n cp, ver v.a v.b v.c v.p] W fun e w' => e = .returned (.bool (l.any (inSp (some (v, false))))) ∧ RowKit.Below W.heap.size W w' := by
  have HR := hide h.r
  have HO := hide h.row.ok
  have HN : Hid (n ≤ 1000 ∧ l.length = n) := ⟨Nat.le_trans h.le hB, h.r.n⟩
  have HV := hide hv
  have hn1 : n ≤ 1000 := HN.out.1
  clear h hB hv
  go_enter Tryz.func25, Tryz.ntmps25
  go_wp2_with fail
  have X0 := hide (Box.new W #[.int .i64 v.a, .int .i64 v.b, .int .i64 v.c, .string v.p] 34)
  have B0 : Hid (RowKit.Below W.heap.size W (W.alloc (.cells #[.int .i64 v.a, .int .i64 v.b, .int .i64 v.c, .string v.p] 34))) := hide (by repeat (first | with_reducible assumption | with_reducible exact Below.refl _ _ | with_reducible refine Below.setCell ?_ (by first | exact Nat.le_refl _ | (simp; done) | (simp; omega)) _ | with_reducible refine bal ?_ _ | with_reducible refine Below.alloc ?_ (by first | exact Nat.le_refl _ | (simp; done) | (simp; omega)) _ | with_reducible refine Below.drew ?_))
  generalize W.alloc (.cells #[.int .i64 v.a, .int .i64 v.b, .int .i64 v.c, .string v.p] 34) = W1 at *
  go_loopw [5] (fun i wr => ∃ k : Nat, k ≤ n ∧ i = .int .i64 k ∧ Hid (Box wr W.heap.size #[.int .i64 v.a, .int .i64 v.b, .int .i64 v.c, .string v.p]) ∧ Hid (RowKit.Below W.heap.size W wr) ∧ Hid ((l.take k).any (inSp (some (v, false))) = false)) (fun i _ => n - (RowKit.intOf i).toNat)
  case atStart => exact ⟨0, by omega, rfl, X0, B0, hide rfl⟩
  case round =>
    clear X0 B0
    obtain ⟨k, hk, rfl, X, HB, HT⟩ := hrel
    by_cases hlt : k < n
    · obtain ⟨g, off, rfl⟩ := HR.out.spot (by omega)
      have hlk : k < l.length := by rw [HR.out.n]; exact hlt
      have hj : l[k]? = some l[k] := List.getElem?_eq_getElem hlk
      have hs := HO.out _ (List.getElem_mem hlk)
      obtain ⟨d0, d1, d2, d3, d4, d5, d6, d7, d8, d9, d10⟩ := ES_at (HR.out.later HB.out) k l[k] hj
      have HA : Hid ((l.take (k + 1)).any (inSp (some (v, false))) = inSp (some (v, false)) (pS (pt l[k]))) := by
        show _ = _
        rw [List.take_succ_eq_append_getElem hlk, List.any_append, HT.out, pS_pt hs]
        simp
      have HA2 : Hid (inSp (some (v, false)) (pS (pt l[k])) = true → l.any (inSp (some (v, false))) = true) := fun e => List.any_eq_true.2 ⟨l[k], List.getElem_mem hlk, by rw [← pS_pt hs]; exact e⟩
      have HI := hide (has_is (pt l[k]) v)
      have hpo := okPt_pt hs
      have CL : Hid (∀ W', Calls Tryz.prog 26 #[ver (pt l[k]).a (pt l[k]).b (pt l[k]).c (pt l[k]).p, ver v.a v.b v.c v.p] W' fun e w' => e = .returned (.int .i64 (cmpV (pt l[k]).lv v)) ∧ RowKit.Below W'.heap.size W' w') := fun W' => rcmp_any (pt l[k]).lv v W' (ok_1000 hpo.1) (ok_1000 HV.out)
      have CH : Hid (∀ W', Calls Tryz.prog 26 #[ver v.a v.b v.c v.p, ver (pt l[k]).a' (pt l[k]).b' (pt l[k]).c' (pt l[k]).p'] W' fun e w' => e = .returned (.int .i64 (cmpV v (pt l[k]).hv)) ∧ RowKit.Below W'.heap.size W' w') := fun W' => rcmp_any v (pt l[k]).hv W' (ok_1000 HV.out) (ok_1000 hpo.2)
      have b1 := ord_ver.bd (pt l[k]).lv v
      have b2 := ord_ver.bd v (pt l[k]).hv
      generalize cmpV (pt l[k]).lv v = kl at *
      generalize cmpV v (pt l[k]).hv = kh at *
      generalize inSp (some (v, false)) (pS (pt l[k])) = res at *
      generalize pt l[k] = q at *
      clear hs hj hpo hlk
      have i1 : (0 : Int) ≤ (k : Int) := by omega
      have i2 : (k : Int) < (n : Int) := by omega
      have h3 : kl = -1 ∨ kl = 0 ∨ kl = 1 := by omega
      have h4 : kh = -1 ∨ kh = 0 ∨ kh = 1 := by omega
      have H3 := hide h3
      have H4 := hide h4
      clear h3 h4 b1 b2
      go_wp2_with fail
      have X2 := hide (X.out.alloc (.cells q.cells 57))
      have Y2 := hide (Box.new wr q.cells 57)
      have B2 := hide (bal HB.out (.cells q.cells 57))
      clear d0 d1 d2 d3 d4 d5 d6 d7 d8 d9 d10
      generalize wr.alloc (.cells q.cells 57) = W2 at *
      generalize wr.heap.size = M at *
      have KX : ∀ dd os i, (grow (redrawn W2 dd) os).cell? ⟨W.heap.size, i, none⟩ = (#[.int .i64 v.a, .int .i64 v.b, .int .i64 v.c, .string v.p] : Array Value)[i]? := fun dd os => (X2.out.regrown dd os).c
      have KY : ∀ dd os i, (grow (redrawn W2 dd) os).cell? ⟨M, i, none⟩ = (q.cells)[i]? := fun dd os => (Y2.out.regrown dd os).c
      obtain ⟨qa, qb, qc, qp, qa', qb', qc', qp', qx, qy, qz⟩ := q
      refine wp_region_quiet_below mixed (by kernel_rfl) ?_
      quiet_step (fail)
      quiet_step (fail)
      quiet_step (fail)
      quiet_step (exact Calls.regrown_of (CL.out _))
      quiet_step (fail)
      quiet_step (fail)
      quiet_step (fail)
      quiet_step (exact Calls.regrown_of (CH.out _))
      quiet_step (fail)
      quiet_step (fail)
      refine wpQuiet_nil ?_
      intro w3 hw3
      have b3 := regrown_below hw3
      have X3 := hide (X2.out.later b3)
      have B3 := hide (step B2.out b3)
      obtain ⟨_, cY, _⟩ := Y2.out.later b3
      clear KX KY CL CH hw3 b3 X2 Y2 B2
      have h4 := H4.out
      have fin : Hid (∀ b, res = b → b = false → (l.take (k + 1)).any (inSp (some (v, false))) = false) := fun b e1 e2 => by rw [HA.out, e1, e2]
      have goT : Hid (res = true → l.any (inSp (some (v, false))) = true) := HA2
      clear HA HA2 H4
      have H4 := hide h4
      clear h4
      rcases H3.out with rfl | rfl | rfl
      · cases qz
        · rcases H4.out with rfl | rfl | rfl
          · go_wp2_with fail
            go_ret
            exact ⟨ret_b (goT.out (by rw [HI.out]; rfl)).symm, B3.out⟩
          · cases qy
            · go_wp2_with fail
              go_roundw
              case rel => exact ⟨k + 1, by omega, by go_num, X3, B3, hide (fin.out _ HI.out rfl)⟩
              case measure => simp [RowKit.intOf]; omega
            · go_wp2_with fail
              go_ret
              exact ⟨ret_b (goT.out (by rw [HI.out]; rfl)).symm, B3.out⟩
          · go_wp2_with fail
            go_roundw
            case rel => exact ⟨k + 1, by omega, by go_num, X3, B3, hide (fin.out _ HI.out rfl)⟩
            case measure => simp [RowKit.intOf]; omega
        · go_wp2_with fail
          go_ret
          exact ⟨ret_b (goT.out (by rw [HI.out]; rfl)).symm, B3.out⟩
      · cases qx
        · cases qz
          · rcases H4.out with rfl | rfl | rfl
            · go_wp2_with fail
              go_ret
              exact ⟨ret_b (goT.out (by rw [HI.out]; rfl)).symm, B3.out⟩
            · cases qy
              · go_wp2_with fail
                go_roundw
                case rel => exact ⟨k + 1, by omega, by go_num, X3, B3, hide (fin.out _ HI.out rfl)⟩
                case measure => simp [RowKit.intOf]; omega
              · go_wp2_with fail
                go_ret
                exact ⟨ret_b (goT.out (by rw [HI.out]; rfl)).symm, B3.out⟩
            · go_wp2_with fail
              go_roundw
              case rel => exact ⟨k + 1, by omega, by go_num, X3, B3, hide (fin.out _ HI.out rfl)⟩
              case measure => simp [RowKit.intOf]; omega
          · go_wp2_with fail
            go_ret
            exact ⟨ret_b (goT.out (by rw [HI.out]; rfl)).symm, B3.out⟩
        · go_wp2_with fail
          go_roundw
          case rel => exact ⟨k + 1, by omega, by go_num, X3, B3, hide (fin.out _ HI.out rfl)⟩
          case measure => simp [RowKit.intOf]; omega
      · go_wp2_with fail
        go_roundw
        case rel => exact ⟨k + 1, by omega, by go_num, X3, B3, hide (fin.out _ HI.out rfl)⟩
        case measure => simp [RowKit.intOf]; omega
    · have hd : decide ((k : Int) < (n : Int)) = false := by simp; omega
      have HE : Hid (l.any (inSp (some (v, false))) = false) := by
        have := HT.out
        rw [List.take_of_length_le (by have := HN.out; omega)] at this
        exact this
      go_wp2_with fail
      go_ret
      exact ⟨ret_b HE.out.symm, HB.out⟩
end Go.Proofs.YtmaklmgjkmbedaaGreatDoor
