/-
  Contract of the law's Locks.
-/
import Derived.Test.YtnmmhihfnphjeaaGreatDoorG33
import Derived.Test.YtnmmhihfnphjeaaGreatDoorG34

namespace Go.Proofs.YtnmmhihfnphjeaaGreatDoor.B
set_option linter.unusedSimpArgs false
set_option linter.unusedVariables false
open Go.RowKit Go.Vr Go.Sort Go.Tx Go.Lib
open Go.Br hiding Bs
attribute [local go_sem] setCellDrewN allocDrewN

theorem Row.below {k : IntKind} {w w' : World} {a : Option Addr} {len cap : Nat} {xs : List Int} (h : Row k w a len cap xs) (hb : Below w.heap.size w w') : Row k w' a len cap xs := h.later hb

set_option maxHeartbeats 16000000 in
set_option maxRecDepth 100000 in
theorem locks5_any (a : Option Addr) (len cap : Nat) (xs : List Int) (b : Option Addr) (lenb capb : Nat) (zs : List Int) (w : World) (hr : Row .i64 w a len cap xs) (hz : Row .u8 w b lenb capb zs) :
    Calls Tryz.prog 14 #[.slice a len cap, .slice b lenb capb, .int .i64 45] w fun e w' => ∃ (v' : Value) (ls : List Lk), e = .returned v' ∧ EOwn ELk w' w.heap.size v' ls ∧ (∀ x ∈ ls, okX x) ∧ (ls.map Lk.root).Nodup ∧ ls.length ≤ 45 ∧ Below w.heap.size w w' := by
  have HR := hide hr
  have HZ := hide hz
  have hmx := Nat.le_trans hr.le hr.mx
  unfold maxLen at hmx
  clear hr hz
  go_enter Tryz.func14, Tryz.ntmps14
  go_wp2_with fail
  go_loopw [7, 8] (fun v i wr => ∃ (k : Nat) (ls : List Lk), k ≤ 45 ∧ ls.length ≤ k ∧ i = .int .i64 k ∧ Hid (EOwn ELk wr w.heap.size v ls) ∧ Hid (∀ x ∈ ls, okX x) ∧ Hid ((ls.map Lk.root).Nodup) ∧ Hid (Below w.heap.size w wr)) (fun _ i _ => 45 - (RowKit.intOf i).toNat)
  case atStart => exact ⟨0, [], Nat.zero_le _, Nat.le_refl _, rfl, EOwn.nil _ _, (fun x hx => absurd hx (by simp)), (by show List.Nodup _; simp), Below.refl _ _⟩
  case round =>
    obtain ⟨k, ls, hk, hlk, rfl, HO, HX, HN, HB⟩ := hrel
    by_cases hi : k < len ∧ k < 45
    · obtain ⟨hi0, hi1⟩ := hi
      obtain ⟨g, off, rfl, hc0⟩ := row_at (HR.out.later HB.out) (by omega)
      have e0 := hc0 k hi0
      have y0 := row_bd (HR.out.later HB.out) k hi0
      generalize xs.getD k 0 = n0 at *
      have e0a : ∀ o, (wr.alloc o).cell? ⟨g, off + k, none⟩ = some (.int .i64 n0) := fun o => cellLater (show Below wr.heap.size wr (wr.alloc o) from (by repeat (first | with_reducible assumption | with_reducible exact Below.refl _ _ | with_reducible refine Below.setCell ?_ (by first | exact Nat.le_refl _ | (simp; done) | (simp; omega)) _ | with_reducible refine bal ?_ _ | with_reducible refine Below.alloc ?_ (by first | exact Nat.le_refl _ | (simp; done) | (simp; omega)) _ | with_reducible refine Below.drew ?_))) e0
      have hbs := HB.out.size
      obtain ⟨y, hy⟩ : ∃ y : Int, y = Int.tdiv n0 7 := ⟨_, rfl⟩
      have hyb : -9223372036854775808 ≤ y ∧ y ≤ 9223372036854775807 := by
        rw [hy]
        rcases Int.le_total 0 n0 with h | h
        · rw [Int.tdiv_eq_ediv_of_nonneg h]; omega
        · have : Int.tdiv n0 7 = -(Int.tdiv (-n0) 7) := by rw [Int.neg_tdiv, Int.neg_neg]
          rw [this, Int.tdiv_eq_ediv_of_nonneg (by omega)]; omega
      have q7 : Int.tdiv n0 7 = y := hy.symm
      have r7 : IntKind.i64.wrap y = y := by rw [IntKind.wrap_i64]; omega
      have CL := hide (fun W (hW : Below w.heap.size w W) => lock5_any n0 y b lenb capb zs W (HZ.out.later hW) y0 hyb)
      have i0 : (0 : Int) ≤ (k : Int) := by omega
      have i1 : (k : Int) < (len : Int) := by omega
      have i2 : (k : Int) < 45 := by omega
      have HKW : Hid (wrap64 ((k : Int) + 1) = ((k + 1 : Nat) : Int)) := by show _ = _; unfold wrap64; omega
      have hlt' := hide hi1
      have Hlk := hide hlk
      clear hc0 y0 hyb hy hi0 hi1 hk hlk hmx
      go_wp2_with fail
      go_cut [9] (fun p wc => ∃ (x : Lk) (N : Nat), p = .pointer (some ⟨N, 0, none⟩) ∧ Hid (wr.heap.size ≤ N) ∧ Hid (okX x) ∧ Hid (Box wc N (lkc x)) ∧ Hid (Below wr.heap.size wr wc))
      case first =>
        go_region_law
          (first
            | (go_simp; go_at_call 31; refine (CL.out _ (Below.trans HB.out (Below.mono (by first | exact Below.refl _ _ | exact (Below.refl _ _).drew | exact belDrewN _ _ | exact (by repeat (first | with_reducible assumption | with_reducible exact Below.refl _ _ | with_reducible refine Below.setCell ?_ (by first | exact Nat.le_refl _ | (simp; done) | (simp; omega)) _ | with_reducible refine bal ?_ _ | with_reducible refine Below.alloc ?_ (by first | exact Nat.le_refl _ | (simp; done) | (simp; omega)) _ | with_reducible refine Below.drew ?_))) hbs))).mono ?_; rintro e u2 ⟨x, rfl, hok, b2⟩; have BX : Box u2 wr.heap.size #[.string ⟨#[]⟩, .string ⟨#[]⟩, .string ⟨#[]⟩, .string ⟨#[]⟩, .string ⟨#[]⟩] := (by refine Box.later ?_ b2; first | exact (Box.new wr #[.string ⟨#[]⟩, .string ⟨#[]⟩, .string ⟨#[]⟩, .string ⟨#[]⟩, .string ⟨#[]⟩] 49).drewN _ | exact Box.new wr #[.string ⟨#[]⟩, .string ⟨#[]⟩, .string ⟨#[]⟩, .string ⟨#[]⟩, .string ⟨#[]⟩] 49 | exact (Box.new wr #[.string ⟨#[]⟩, .string ⟨#[]⟩, .string ⟨#[]⟩, .string ⟨#[]⟩, .string ⟨#[]⟩] 49).of_block rfl); have xc := BX.c; have xf := BX.f)
            | (go_simp; go_at_call 31; refine (CL.out _ (Below.trans HB.out (Below.mono (by first | exact Below.refl _ _ | exact (Below.refl _ _).drew | exact belDrewN _ _ | exact (by repeat (first | with_reducible assumption | with_reducible exact Below.refl _ _ | with_reducible refine Below.setCell ?_ (by first | exact Nat.le_refl _ | (simp; done) | (simp; omega)) _ | with_reducible refine bal ?_ _ | with_reducible refine Below.alloc ?_ (by first | exact Nat.le_refl _ | (simp; done) | (simp; omega)) _ | with_reducible refine Below.drew ?_))) hbs))).mono ?_; rintro e u2 ⟨x, rfl, hok, b2⟩))
        all_goals
          go_wp2_with fail
          go_meet
          case rel =>
            first
              | exact ⟨x, wr.heap.size, rfl, Nat.le_refl _, hok, (box_set5 BX (.string (str x.root)) (.string (str x.ver)) (.string (str x.rev)) (.string (str x.within)) (.string (str x.source))).1, (Below.trans (show Below wr.heap.size wr _ from (by repeat (first | with_reducible assumption | with_reducible exact Below.refl _ _ | with_reducible refine Below.setCell ?_ (by first | exact Nat.le_refl _ | (simp; done) | (simp; omega)) _ | with_reducible refine bal ?_ _ | with_reducible refine Below.alloc ?_ (by first | exact Nat.le_refl _ | (simp; done) | (simp; omega)) _ | with_reducible refine Below.drew ?_))) (b2.mono (by simp))).trans ((box_set5 BX (.string (str x.root)) (.string (str x.ver)) (.string (str x.rev)) (.string (str x.within)) (.string (str x.source))).2 _ (Nat.le_refl _))⟩
              | (have BB : Below wr.heap.size wr u2 := Below.trans (by first | exact Below.refl _ _ | exact (Below.refl _ _).drew | exact belDrewN _ _) (b2.mono (by first | exact Nat.le_refl _ | simp)); exact ⟨x, u2.heap.size, rfl, BB.size, hok, Box.new u2 (lkc x) _, BB.alloc BB.size _⟩)
      case rest =>
        obtain ⟨x, N, rfl, HN', HOK, HXB, HBC⟩ := hcut
        have HO2 := hide (HO.out.later HBC.out)
        have HB2 := hide (HB.out.trans (HBC.out.mono hbs))
        obtain ⟨oa, oc, hOe, -, -, hrow⟩ := HO2.out.any
        have HRW := hide hrow
        subst hOe
        clear hrow CL e0 e0a q7 r7
        go_wp2_with fail
        go_loopw [10, 11] (fun c i wr' => ∃ (q : Nat) (bt : Bool), q ≤ ls.length ∧ i = .int .i64 q ∧ c = .bool bt ∧ Hid (bt = (ls.take q).any (fun z => z.root == x.root)) ∧ Hid (Below wc.heap.size wc wr')) (fun _ i _ => ls.length - (RowKit.intOf i).toNat)
        case atStart => exact ⟨0, false, Nat.zero_le _, rfl, rfl, rfl, Below.refl _ _⟩
        case round =>
          obtain ⟨q, bt, hq, rfl, rfl, HT, HB3⟩ := hrel
          by_cases hql : q < ls.length
          · obtain ⟨g2, off2, rfl⟩ := HRW.out.spot (by omega)
            have hx : ls[q]? = some ls[q] := List.getElem?_eq_getElem hql
            obtain ⟨d0, -, -, -, -⟩ := ELk_at (HRW.out.later HB3.out) q ls[q] hx
            have x0 := (HXB.out.later HB3.out).c 0
            have HTK : Hid ((ls.take (q + 1)).any (fun z => z.root == x.root) = (bt || (ls[q].root == x.root))) := by
              show _ = _
              rw [List.take_succ_eq_append_getElem hql, List.any_append, ← HT.out]
              simp
            generalize ls[q] = z at *
            have j0 : (0 : Int) ≤ (q : Int) := by omega
            have j1 : (q : Int) < (ls.length : Int) := by omega
            have HQW : Hid (wrap64 ((q : Int) + 1) = ((q + 1 : Nat) : Int)) := by show _ = _; have := Hlk.out; have := hlt'.out; unfold wrap64; omega
            have hq' := hide hql
            have hbs3 := HB3.out.size
            clear hx hql hq
            cases bt with
            | true =>
              go_wp2_with fail
              have k0 := cell_regrown d0
              have k1 := cell_regrown x0
              refine wp_region_quiet_below mixedB (by kernel_rfl) ?_
              iterate 12 (go_big_quiet_step (fail))
              refine wpQuiet_nil ?_
              rintro w6 ⟨p6, rfl⟩
              have B6 := hide (HB3.out.trans ((below_regrown wr p6.d p6.os).mono HB3.out.size))
              go_wp2_with fail
              go_roundw
              case rel => exact ⟨q + 1, true, by have := hq'.out; omega, (by first | exact congrArg (Value.int .i64) HQW.out | rfl), (by first | rfl | simp), (show _ = _ by rw [HTK.out]; simp), B6⟩
              case measure => exact measB (by first | exact HQW.out | rfl) hq'.out
            | false =>
              by_cases hrx : z.root = x.root
              · have hes : ((str z.root).toList == (str x.root).toList) = true := by rw [hrx]; simp
                have HRX := hide hrx
                clear hrx
                go_wp2_with fail
                have k0 := cell_regrown d0
                have k1 := cell_regrown x0
                refine wp_region_quiet_below mixedB (by kernel_rfl) ?_
                iterate 12 (go_big_quiet_step (fail))
                refine wpQuiet_nil ?_
                rintro w6 ⟨p6, rfl⟩
                have B6 := hide (HB3.out.trans ((below_regrown wr p6.d p6.os).mono HB3.out.size))
                go_wp2_with fail
                go_roundw
                case rel => exact ⟨q + 1, true, by have := hq'.out; omega, (by first | exact congrArg (Value.int .i64) HQW.out | rfl), (by first | rfl | simp), (show _ = _ by rw [HTK.out]; simp [HRX.out]), B6⟩
                case measure => exact measB (by first | exact HQW.out | rfl) hq'.out
              · have hes : ((str z.root).toList == (str x.root).toList) = false := by rw [toList_data, toList_data, str_list, str_list]; simpa using hrx
                have HRX := hide hrx
                clear hrx
                go_wp2_with fail
                have k0 := cell_regrown d0
                have k1 := cell_regrown x0
                refine wp_region_quiet_below mixedB (by kernel_rfl) ?_
                iterate 12 (go_big_quiet_step (fail))
                refine wpQuiet_nil ?_
                rintro w6 ⟨p6, rfl⟩
                have B6 := hide (HB3.out.trans ((below_regrown wr p6.d p6.os).mono HB3.out.size))
                go_wp2_with fail
                go_roundw
                case rel => exact ⟨q + 1, false, by have := hq'.out; omega, (by first | exact congrArg (Value.int .i64) HQW.out | rfl), (by first | rfl | simp), (show _ = _ by rw [HTK.out]; simp [HRX.out]), B6⟩
                case measure => exact measB (by first | exact HQW.out | rfl) hq'.out
          · obtain rfl : q = ls.length := by omega
            rw [List.take_length] at HT
            have j1 : ¬ ((ls.length : Int) < (ls.length : Int)) := by omega
            clear hql hq
            have HBE := hide (HB2.out.trans (HB3.out.mono HB2.out.size))
            cases bt with
            | true =>
              have HO4 := hide (HO2.out.later HB3.out)
              go_wp2_with fail
              go_roundw
              case rel => exact ⟨k + 1, ls, by have := hlt'.out; omega, by have := Hlk.out; omega, (by first | exact congrArg (Value.int .i64) HKW.out | rfl), HO4, HX, HN, HBE⟩
              case measure => exact measB (by first | exact HKW.out | rfl) hlt'.out
            | false =>
              have HO4 := hide (HO2.out.later HB3.out)
              have xc := (HXB.out.later HB3.out).c
              have hsz := HBE.out.size
              obtain ⟨r0, r1, r2, r3, r4⟩ := x
              go_wp2_with (refine wpList_eapp ELk rfl _ _ rfl w.heap.size _ ls (some _) 1 1 [⟨r0, r1, r2, r3, r4⟩] rfl rfl (HO4.out.later (by repeat (first | with_reducible assumption | with_reducible exact Below.refl _ _ | with_reducible refine Below.setCell ?_ (by first | exact Nat.le_refl _ | (simp; done) | (simp; omega)) _ | with_reducible refine bal ?_ _ | with_reducible refine Below.alloc ?_ (by first | exact Nat.le_refl _ | (simp; done) | (simp; omega)) _ | with_reducible refine Below.drew ?_))) (ERow.newAt ELk _ (at_new _ _ _ (by simp))) (by have := Hlk.out; have := hlt'.out; omega) (by simp; omega) ?_; intro o' w4 o4 g4 t4)
              have hB4 : Below w.heap.size w w4 := (HBE.out.alloc HBE.out.size (.cells (lkc ⟨r0, r1, r2, r3, r4⟩) 49)).grown g4 (by have := HBE.out.size; simp; omega) (fun j e => (HO4.out.low j e).1)
              have HB4 := hide hB4
              have HO5 := hide o4
              have HX4 : Hid (∀ z ∈ ls ++ [(⟨r0, r1, r2, r3, r4⟩ : Lk)], okX z) := fun z hz => by
                rcases List.mem_append.1 hz with h | h
                · exact HX.out z h
                · rw [List.mem_singleton.1 h]; exact HOK.out
              have HN4 : Hid (((ls ++ [(⟨r0, r1, r2, r3, r4⟩ : Lk)]).map Lk.root).Nodup) := by
                show List.Nodup _
                rw [List.map_append, List.nodup_append]
                refine ⟨HN.out, by simp, fun y hy z hz e => ?_⟩
                obtain ⟨u, hu, rfl⟩ := List.mem_map.1 hy
                simp only [List.map_cons, List.map_nil, List.mem_singleton] at hz
                have hf := HT.out.symm
                rw [List.any_eq_false] at hf
                have := hf u hu
                rw [e, hz] at this
                simp at this
              clear o4 g4 t4 hB4
              go_wp2_with fail
              go_roundw
              case rel => exact ⟨k + 1, ls ++ [⟨r0, r1, r2, r3, r4⟩], by have := hlt'.out; omega, by have := Hlk.out; simp; omega, (by first | exact congrArg (Value.int .i64) HKW.out | rfl), HO5, HX4, HN4, HB4⟩
              case measure => exact measB (by first | exact HKW.out | rfl) hlt'.out
    · clear hmx
      go_wp2_with fail
      all_goals first
        | (exfalso; omega)
        | exact bodyPost_ret (v := u7) (by simp [results, Tryz.results14, go_sem, *]) rfl ⟨_, ls, rfl, HO.out, HX.out, HN.out, by omega, HB.out⟩

end Go.Proofs.YtnmmhihfnphjeaaGreatDoor.B
