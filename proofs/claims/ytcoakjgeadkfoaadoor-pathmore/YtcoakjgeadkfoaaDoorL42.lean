/-
  The walk of PathMore.
-/
import Derived.Test.YtcoakjgeadkfoaaDoorH11
import Derived.Deep.CutBlock
import Derived.Lib.SmallJoins
import Derived.Deep.DeepCutAuto
import Derived.Deep.RegionHeld3
import Derived.BigQuiet
namespace Go.Proofs.YtcoakjgeadkfoaaDoor.pathMore
set_option linter.unusedSimpArgs false
set_option linter.unusedVariables false
open Go.RowKit Go.Vr Go.Sort Go.Tx Go.Pa Go.Lib Go.Joins
attribute [local go_sem] setCellDrewN allocDrewN

theorem SR_fix {w : World} {a : Option Addr} {k c : Nat} {ls : List Bs} {x : Bs} (h : SRow w a (0 + k + 1) c ([] ++ ls ++ [x])) : SRow w a (k + 1) c (ls ++ [x]) := by
  rw [Nat.zero_add, List.nil_append] at h
  exact h

set_option maxHeartbeats 8000000 in
set_option maxRecDepth 100000 in
theorem walk (a0 : Option Addr) (len0 cap0 : Nat) (z0 : List Int) (a1 a2 : Int) (w : World) (he : Env w) (w0 : IsRow .i64 w a0 len0 cap0 z0) (h1 : -9223372036854775808 ≤ a1 ∧ a1 ≤ 9223372036854775807) (h2 : -9223372036854775808 ≤ a2 ∧ a2 ≤ 9223372036854775807) :
    Calls Tryd.prog 4 #[.slice a0 len0 cap0, .int .i64 a1, .int .i64 a2] w fun e w' => e = .returned (.bool true) ∧ Below w.heap.size w w' := by
  have CK := hide (known4_any w he)
  have HE := hide he
  have HR0 := hide w0.row
  have hle := HR0.out.le
  have hmx := HR0.out.mx
  unfold maxLen at hmx
  clear w0 he
  go_enter Tryd.func4, Tryd.ntmps4
  go_wp2_with fail
  refine CK.out.mono ?_
  rintro e v1 ⟨rfl, b1⟩
  have HB1 := hide b1
  clear b1 CK
  go_upto_block 0 with fail
  go_cut [7] (fun l wc => ∃ (k : Nat) (ls : List Bs), k ≤ 10 ∧ ls.length = k ∧ Hid (∀ s ∈ ls, s.length ≤ 15) ∧ Hid (wc.ownsRow v1.heap.size 9 1 l k (ls.map encStr)) ∧ Hid (Below v1.heap.size v1 wc))
  case first =>
    go_wp2_with fail
    go_loopw [7, 8] (fun v i wr => ∃ (k : Nat) (ls : List Bs), k ≤ 10 ∧ i = .int .i64 k ∧ ls.length = k ∧ Hid (∀ s ∈ ls, s.length ≤ 15) ∧ Hid (wr.ownsRow v1.heap.size 9 1 v k (ls.map encStr)) ∧ Hid (Below v1.heap.size v1 wr)) (fun _ i _ => 10 - (RowKit.intOf i).toNat)
    case atStart => exact ⟨0, [], by omega, rfl, rfl, hide (fun s hs => by simp at hs), hide (World.ownsRow_nil _ _ _ _), hide (Below.refl _ _)⟩
    case round =>
      obtain ⟨k, ls, hk, rfl, hlk, HOK, HOWN, HBv⟩ := hrel
      have HB := hide (step HB1.out HBv.out)
      by_cases hi : k < len0 ∧ k < 10
      · obtain ⟨hi0, hi2⟩ := hi
        obtain ⟨x0, o0, rfl, hc0⟩ := row_at (HR0.out.later HB.out) (by omega)
        have e0 := hc0 k hi0
        have y0 := row_bd (HR0.out.later HB.out) k hi0
        generalize (List.take len0 z0).getD k 0 = n0 at *
        clear hc0
        have j1 : (0 : Int) ≤ (k : Int) := by omega
        have j2 : (k : Int) < (len0 : Int) := by omega
        have j4 : (k : Int) < 10 := by omega
        have CM := hide (fun W => make4_any n0 W y0)
        have hm := hide (mkP_ok n0).2.2
        generalize mkP n0 = m0 at *
        clear y0 HR0
        go_wp2_with fail
        refine (CM.out _).mono ?_
        rintro e u2 ⟨rfl, b2⟩
        have HB2 := hide (step HBv.out b2)
        have hs2 := HB2.out.size
        have HO2 := hide (own_later HOWN.out b2)
        clear b2 HB HOWN e0
        go_wp2_with (refine wpList_app rfl _ _ rfl v1.heap.size k _ ls (some ⟨u2.heap.size, 0, none⟩) 1 1 [m0] rfl rfl (HO2.out.alloc _) (one_row (by simp [go_sem])) (by omega) (by simp; omega) ?_; intro v' w' o1 g1 t1)
        have HB3 := hide (bel_app (HB2.out.alloc HB2.out.size _) (HO2.out.alloc _) g1 (by simp; omega))
        go_roundw
        case rel => exact ⟨k + 1, ls ++ [m0], by omega, by go_num, by rw [List.length_append, hlk]; rfl, hide (fun s hs => by rcases List.mem_append.1 hs with h | h; exact HOK.out s h; rw [List.mem_singleton.1 h]; exact hm.out), hide (by exact o1), HB3⟩
        case measure => simp [RowKit.intOf]; omega
      · clear HR0
        go_wp2_with fail
        all_goals first
          | (exfalso; omega)
          | (go_meet; case rel => exact ⟨k, ls, hk, hlk, HOK, HOWN, HBv⟩)
  case rest =>
    obtain ⟨k, ls, hk, hlk, HOK, HOWN, HBv⟩ := hcut
    have HB := hide (step HB1.out HBv.out)
    clear HR0 hle hmx
    obtain ⟨ad, cap, rfl, hcp, hrow⟩ := own_any HOWN.out
    have HROW := hide hrow
    have CA := hide (fun W => make4_any a1 W h1)
    have hrl := (mkP_ok a1).2.2
    have hrs : (str (mkP a1)).size ≤ 15 := by rw [str_size]; exact hrl
    have eR : (str (mkP a1)).data.toList = mkP a1 := str_list _
    have CM := hide (fun W => prmajor_any (str (mkP a1)) W (by omega))
    rw [eR] at CM
    unfold mval at CM
    have hlen := hlk
    have HLS := hide (fun s hs => Nat.le_trans (HOK.out s hs) (show 15 ≤ 100 by omega))
    clear hrow HOWN HBv h1 hrl
    go_wp2_with fail
    refine (within4_nat _ _ _ (by omega) (by omega) (by omega) (by omega)).mono ?_
    rintro e w2 ⟨q, rfl, hq, -, hw⟩
    rw [hw]
    clear hw w2
    have hq01 := hide (show (q : Int) = 0 ∨ (q : Int) = 1 by omega)
    have V0 := hide (VarAt.new wc ⟨(q : Int), 0, 0, ⟨#[]⟩⟩)
    have hbv : Below wc.heap.size wc (wc.alloc (.cells #[.int .i64 (q : Int), .int .i64 0, .int .i64 0, .string ⟨#[]⟩] 28)) := (Below.refl _ _).alloc (Nat.le_refl _) _
    have B1 := hide (step HB.out hbv)
    have HR1 := hide (HROW.out.later hbv)
    generalize hQ : (q : Int) = Q at *
    clear hbv HB HROW h2 hq hQ
    go_wp2_with fail
    refine (CA.out _).mono ?_
    rintro e w3 ⟨rfl, b3⟩
    have V3 := hide (V0.out.later b3)
    have B3 := hide (step B1.out b3)
    have HR3 := hide (HR1.out.later b3)
    have d36 : decide ((36 : Int) < ((str (mkP a1)).size : Int)) = false := decide_eq_false (by omega)
    clear b3 V0 B1 HR1 CA
    generalize wc.heap.size = N at *
    generalize hR : str (mkP a1) = R at *
    go_wp2_with fail
    refine (CM.out _).mono ?_
    rintro e w4 ⟨rfl, b4⟩
    have V4 := hide (V3.out.later b4)
    have B4 := hide (step B3.out b4)
    have HR4 := hide (HR3.out.later b4)
    have E4 := hide (HE.out.later B4.out)
    clear b4 V3 B3 HR3 CM HE
    obtain ⟨vlt, c0, c1, c2, c3, -, -, -, -⟩ := V4.out
    have CF := hide (pfind_any ad k cap ls R ⟨Q, 0, 0, ⟨#[]⟩⟩ w4 HR4.out (by omega) HLS.out E4.out)
    unfold fval at CF
    rw [eR] at CF
    simp only at CF
    generalize hF : find (mkP a1) Q ls = F at *
    go_wp2_with fail
    refine CF.out.mono ?_
    rintro e w5 ⟨rfl, b5⟩
    have V5 := hide (V4.out.later b5)
    have B5 := hide (step B4.out b5)
    have HR5 := hide (HR4.out.later b5)
    have E5 := hide (E4.out.later b5)
    clear b5 V4 B4 HR4 E4 vlt c0 c1 c2 c3 CF
    have HF := hide hF
    have HRr := hide hR
    have ER := hide eR
    clear hF hR eR
    have KV : ∀ w', Below w5.heap.size w5 w' → VarAt w' N ⟨Q, 0, 0, ⟨#[]⟩⟩ := fun w' h => V5.out.later h
    have C0 : ∀ w', Below w5.heap.size w5 w' → w'.cell? ⟨N, 0, none⟩ = some (.int .i64 Q) := fun w' h => (KV w' h).c0
    have C1 : ∀ w', Below w5.heap.size w5 w' → w'.cell? ⟨N, 1, none⟩ = some (.int .i64 0) := fun w' h => (KV w' h).c1
    have C2 : ∀ w', Below w5.heap.size w5 w' → w'.cell? ⟨N, 2, none⟩ = some (.int .i64 0) := fun w' h => (KV w' h).c2
    have C3 : ∀ w', Below w5.heap.size w5 w' → w'.cell? ⟨N, 3, none⟩ = some (.string ⟨#[]⟩) := fun w' h => (KV w' h).c3
    clear KV
    have HXY : Hid ((R ++ ⟨#[120, 47, 121]⟩) = str (mkP a1 ++ [120, 47, 121])) := by show _ = _; rw [← HRr.out, ← str_app]; rfl
    have CG : ∀ ad2 cap2 W, SRow W ad2 (k + 1) cap2 (ls ++ [mkP a1 ++ [120, 47, 121]]) → Below w5.heap.size w5 W → Calls Tryd.prog 9 #[.slice ad2 (k + 1) cap2, .string R, val ⟨Q, 0, 0, ⟨#[]⟩⟩] W fun e w' => e = .returned (.tuple #[.string (bp F), .bool F.isSome]) ∧ Below W.heap.size W w' := fun ad2 cap2 W hS hb => by
      have := pfind_any ad2 (k + 1) cap2 _ R ⟨Q, 0, 0, ⟨#[]⟩⟩ W hS (by omega) (by
        intro s hs
        rw [List.mem_append, List.mem_singleton] at hs
        rcases hs with hs | rfl
        · exact HLS.out s hs
        · have := (mkP_ok a1).2.2; simp; omega) (E5.out.later hb)
      unfold fval at this
      rw [ER.out, find_not _ _ _ _ (may_xy _ _), HF.out] at this
      exact this
    have hz3 : (ByteArray.mk #[120, 47, 121]).size = 3 := rfl
    have n1 : ¬ 9223372036854775807 < R.size + 3 := by omega
    go_wp2_with fail
    go_cut [15, 16] (fun p h wz => p = .string (bp F) ∧ h = .bool F.isSome ∧ Hid (Below w5.heap.size w5 wz))
    case first =>
      have hB0 := Below.refl w5.heap.size w5
      have hBa : Below w5.heap.size w5 (w5.alloc (.cells #[] 9)).drew := ((Below.refl _ _).alloc (Nat.le_refl _) _).drew
      have hBb : Below w5.heap.size w5 ((w5.alloc (.cells #[] 9)).alloc (.cells #[.string (R ++ ⟨#[120, 47, 121]⟩)] 9)).drew := (((Below.refl _ _).alloc (Nat.le_refl _) _).alloc (by simp) _).drew
      have hOa : ((w5.alloc (.cells #[] 9)).drew).ownsRow w5.heap.size 9 1 (.slice (some ⟨w5.heap.size, 0, none⟩) 0 0) 0 (([] : List Bs).map encStr) := own_later (fresh_own (w := w5.alloc (.cells #[] 9)) (at_new _ _ _ rfl) (Nat.le_refl _)) ((Below.refl _ _).drew)
      have hOb : (((w5.alloc (.cells #[] 9)).alloc (.cells #[.string (R ++ ⟨#[120, 47, 121]⟩)] 9)).drew).ownsRow w5.heap.size 9 1 (.slice (some ⟨w5.heap.size, 0, none⟩) 0 0) 0 (([] : List Bs).map encStr) := own_later (fresh_own (w := w5.alloc (.cells #[] 9)) (at_new _ _ _ rfl) (Nat.le_refl _)) (((Below.refl _ _).alloc (Nat.le_refl _) _).drew)
      have hXb : (((w5.alloc (.cells #[] 9)).alloc (.cells #[.string (R ++ ⟨#[120, 47, 121]⟩)] 9)).drew).cell? ⟨w5.heap.size + 1, 0, none⟩ = some (.string (R ++ ⟨#[120, 47, 121]⟩)) := by
        show ((w5.alloc (.cells #[] 9)).alloc (.cells #[.string (R ++ ⟨#[120, 47, 121]⟩)] 9)).cell? _ = _
        rw [cell_of_block (at_new _ _ _ (by simp))]; rfl
      have hBc : Below w5.heap.size w5 ((w5.alloc (.cells #[.string (R ++ ⟨#[120, 47, 121]⟩)] 9)).alloc (.cells #[] 9)).drew := (((Below.refl _ _).alloc (Nat.le_refl _) _).alloc (by simp) _).drew
      have hOc : (((w5.alloc (.cells #[.string (R ++ ⟨#[120, 47, 121]⟩)] 9)).alloc (.cells #[] 9)).drew).ownsRow w5.heap.size 9 1 (.slice (some ⟨w5.heap.size + 1, 0, none⟩) 0 0) 0 (([] : List Bs).map encStr) := own_later (fresh_own (w := (w5.alloc (.cells #[.string (R ++ ⟨#[120, 47, 121]⟩)] 9)).alloc (.cells #[] 9)) (at_new _ _ _ (by simp)) (by simp)) ((Below.refl _ _).drew)
      have hXc : (((w5.alloc (.cells #[.string (R ++ ⟨#[120, 47, 121]⟩)] 9)).alloc (.cells #[] 9)).drew).cell? ⟨w5.heap.size, 0, none⟩ = some (.string (R ++ ⟨#[120, 47, 121]⟩)) := by
        show ((w5.alloc (.cells #[.string (R ++ ⟨#[120, 47, 121]⟩)] 9)).alloc (.cells #[] 9)).cell? _ = _
        rw [cell_of_block ((Below.heap_alloc _ _ _ (by simp)).trans (at_new _ _ _ rfl))]; rfl
      have HOc := hide hOc
      have HXc := hide hXc
      clear hOc hXc
      have HOa := hide hOa
      have HOb := hide hOb
      have HXb := hide hXb
      clear hOa hOb hXb
      go_region_held3 (fun w' => Below w5.heap.size w5 w') (first | with_reducible assumption | exact (by repeat (first | with_reducible assumption | with_reducible exact Below.refl _ _ | with_reducible refine Below.setCell ?_ (by first | exact Nat.le_refl _ | (simp; done) | (simp; omega)) _ | with_reducible refine bal ?_ _ | with_reducible refine Below.alloc ?_ (by first | exact Nat.le_refl _ | (simp; done) | (simp; omega)) _ | with_reducible refine Below.drew ?_))) (first
        | (refine step_app rfl _ _ rfl w5.heap.size 0 (.slice (some ⟨w5.heap.size, 0, none⟩) 0 0) [] ad k cap ls rfl rfl (by with_reducible exact HOa.out) (HR5.out.later hBa) (by omega) hBa.size ?_; intro v1 w1 o1 g1 t1; have B1 : Below w5.heap.size w5 w1 := bel_app hBa HOa.out g1 hBa.size; have B1a : Below w5.heap.size w5 (w1.alloc (.cells #[.string (R ++ ⟨#[120, 47, 121]⟩)] 9)) := bal B1 _)
        | (refine step_app rfl _ _ rfl w5.heap.size 0 (.slice (some ⟨w5.heap.size, 0, none⟩) 0 0) [] ad k cap ls rfl rfl (by with_reducible exact HOb.out) (HR5.out.later hBb) (by omega) hBb.size ?_; intro v1 w1 o1 g1 t1; have B1 : Below w5.heap.size w5 w1 := bel_app hBb HOb.out g1 hBb.size; have cX : w1.cell? ⟨w5.heap.size + 1, 0, none⟩ = some (.string (R ++ ⟨#[120, 47, 121]⟩)) := g1.cell HXb.out (by intro e; first | (have e2 : some w5.heap.size = some (w5.heap.size + 1) := e; simp at e2; done) | (have e2 : some (w5.heap.size + 1) = some w5.heap.size := e; simp at e2; done)); have CX := hide cX; clear cX)
        | (refine step_app rfl _ _ rfl w5.heap.size 0 (.slice (some ⟨w5.heap.size + 1, 0, none⟩) 0 0) [] ad k cap ls rfl rfl (by with_reducible exact HOc.out) (HR5.out.later hBc) (by omega) hBc.size ?_; intro v1 w1 o1 g1 t1; have B1 : Below w5.heap.size w5 w1 := bel_app hBc HOc.out g1 hBc.size; have cX : w1.cell? ⟨w5.heap.size, 0, none⟩ = some (.string (R ++ ⟨#[120, 47, 121]⟩)) := g1.cell HXc.out (by intro e; first | (have e2 : some (w5.heap.size + 1) = some w5.heap.size := e; simp at e2; done) | (have e2 : some w5.heap.size = some (w5.heap.size + 1) := e; simp at e2; done)); have CXc := hide cX; clear cX)
        | (refine step_app rfl _ _ rfl w5.heap.size (0 + k) v1 ([] ++ ls) (some ⟨w1.heap.size, 0, none⟩) 1 1 [mkP a1 ++ [120, 47, 121]] rfl rfl (o1.alloc _) (one_row (by rw [cell_of_block (at_new _ _ _ rfl)]; rw [HXY.out]; rfl)) (by omega) B1a.size ?_; intro v2 w2 o2 g2 t2; have B2 : Below w5.heap.size w5 w2 := bel_app B1a (o1.alloc _) g2 B1a.size; obtain ⟨ad2, cap2, rfl, hn2, S2⟩ := own_any o2; have S3 := SR_fix S2)
        | (refine step_app rfl _ _ rfl w5.heap.size (0 + k) v1 ([] ++ ls) (some ⟨w5.heap.size + 1, 0, none⟩) 1 1 [mkP a1 ++ [120, 47, 121]] rfl rfl o1 (one_row (by rw [← HXY.out]; exact CX.out)) (by omega) B1.size ?_; intro v2 w2 o2 g2 t2; have B2 : Below w5.heap.size w5 w2 := bel_app B1 o1 g2 B1.size; obtain ⟨ad2, cap2, rfl, hn2, S2⟩ := own_any o2; have S3 := SR_fix S2)
        | (refine step_app rfl _ _ rfl w5.heap.size (0 + k) v1 ([] ++ ls) (some ⟨w5.heap.size, 0, none⟩) 1 1 [mkP a1 ++ [120, 47, 121]] rfl rfl o1 (one_row (by rw [← HXY.out]; exact CXc.out)) (by omega) B1.size ?_; intro v2 w2 o2 g2 t2; have B2 : Below w5.heap.size w5 w2 := bel_app B1 o1 g2 B1.size; obtain ⟨ad2, cap2, rfl, hn2, S2⟩ := own_any o2; have S3 := SR_fix S2)
        | (go_simp; go_at_call 9; refine (CG ad2 cap2 _ S3 B2).mono ?_; rintro e u3 ⟨rfl, hb3⟩; have hb4 : Below w5.heap.size w5 u3 := step B2 hb3))
      all_goals
        go_wp2_with fail
        go_meet
        case rel => exact ⟨rfl, rfl, hide hb4⟩
    case rest =>
      obtain ⟨rfl, rfl, Hb7⟩ := hcut
      obtain ⟨w7, hU7⟩ : ∃ W, W = wc := ⟨_, rfl⟩
      subst hU7
      have V7 := hide (V5.out.later Hb7.out)
      have B7 := hide (step B5.out Hb7.out)
      have HR7 := hide (HR5.out.later Hb7.out)
      have E7 := hide (E5.out.later Hb7.out)
      clear C0 C1 C2 C3 CG V5 B5 HR5 E5 Hb7 HXY n1 hz3
      have HX : Hid (R = str (mkP a1)) := HRr.out.symm
      have C0 : ∀ w', Below w7.heap.size w7 w' → w'.cell? ⟨N, 0, none⟩ = some (.int .i64 Q) := fun w' h => (V7.out.later h).c0
      have C1 : ∀ w', Below w7.heap.size w7 w' → w'.cell? ⟨N, 1, none⟩ = some (.int .i64 0) := fun w' h => (V7.out.later h).c1
      have C2 : ∀ w', Below w7.heap.size w7 w' → w'.cell? ⟨N, 2, none⟩ = some (.int .i64 0) := fun w' h => (V7.out.later h).c2
      have C3 : ∀ w', Below w7.heap.size w7 w' → w'.cell? ⟨N, 3, none⟩ = some (.string ⟨#[]⟩) := fun w' h => (V7.out.later h).c3
      have CH : ∀ ad2 cap2 W, SRow W ad2 (k + 1) cap2 (ls ++ [mkP a1]) → Below w7.heap.size w7 W → Calls Tryd.prog 9 #[.slice ad2 (k + 1) cap2, .string R, val ⟨Q, 0, 0, ⟨#[]⟩⟩] W fun e w' => e = .returned (.tuple #[.string (bp (find (mkP a1) Q (ls ++ [mkP a1]))), .bool (find (mkP a1) Q (ls ++ [mkP a1])).isSome]) ∧ Below W.heap.size W w' := fun ad2 cap2 W hS hb => by
        have := pfind_any ad2 (k + 1) cap2 _ R ⟨Q, 0, 0, ⟨#[]⟩⟩ W hS (by omega) (by
          intro s hs
          rw [List.mem_append, List.mem_singleton] at hs
          rcases hs with hs | rfl
          · exact HLS.out s hs
          · have := (mkP_ok a1).2.2; omega) (E7.out.later hb)
        unfold fval at this
        rw [ER.out] at this
        exact this
      go_wp2_with fail
      go_cut [17, 18] (fun p h wz => p = .string (bp (find (mkP a1) Q (ls ++ [mkP a1]))) ∧ h = .bool (find (mkP a1) Q (ls ++ [mkP a1])).isSome ∧ Hid (Below w7.heap.size w7 wz))
      case first =>
        have hB0 := Below.refl w7.heap.size w7
        have hBa : Below w7.heap.size w7 (w7.alloc (.cells #[] 9)).drew := ((Below.refl _ _).alloc (Nat.le_refl _) _).drew
        have hBb : Below w7.heap.size w7 ((w7.alloc (.cells #[] 9)).alloc (.cells #[.string R] 9)).drew := (((Below.refl _ _).alloc (Nat.le_refl _) _).alloc (by simp) _).drew
        have hOa : ((w7.alloc (.cells #[] 9)).drew).ownsRow w7.heap.size 9 1 (.slice (some ⟨w7.heap.size, 0, none⟩) 0 0) 0 (([] : List Bs).map encStr) := own_later (fresh_own (w := w7.alloc (.cells #[] 9)) (at_new _ _ _ rfl) (Nat.le_refl _)) ((Below.refl _ _).drew)
        have hOb : (((w7.alloc (.cells #[] 9)).alloc (.cells #[.string R] 9)).drew).ownsRow w7.heap.size 9 1 (.slice (some ⟨w7.heap.size, 0, none⟩) 0 0) 0 (([] : List Bs).map encStr) := own_later (fresh_own (w := w7.alloc (.cells #[] 9)) (at_new _ _ _ rfl) (Nat.le_refl _)) (((Below.refl _ _).alloc (Nat.le_refl _) _).drew)
        have hXb : (((w7.alloc (.cells #[] 9)).alloc (.cells #[.string R] 9)).drew).cell? ⟨w7.heap.size + 1, 0, none⟩ = some (.string R) := by
          show ((w7.alloc (.cells #[] 9)).alloc (.cells #[.string R] 9)).cell? _ = _
          rw [cell_of_block (at_new _ _ _ (by simp))]; rfl
        have hBc : Below w7.heap.size w7 ((w7.alloc (.cells #[.string R] 9)).alloc (.cells #[] 9)).drew := (((Below.refl _ _).alloc (Nat.le_refl _) _).alloc (by simp) _).drew
        have hOc : (((w7.alloc (.cells #[.string R] 9)).alloc (.cells #[] 9)).drew).ownsRow w7.heap.size 9 1 (.slice (some ⟨w7.heap.size + 1, 0, none⟩) 0 0) 0 (([] : List Bs).map encStr) := own_later (fresh_own (w := (w7.alloc (.cells #[.string R] 9)).alloc (.cells #[] 9)) (at_new _ _ _ (by simp)) (by simp)) ((Below.refl _ _).drew)
        have hXc : (((w7.alloc (.cells #[.string R] 9)).alloc (.cells #[] 9)).drew).cell? ⟨w7.heap.size, 0, none⟩ = some (.string R) := by
          show ((w7.alloc (.cells #[.string R] 9)).alloc (.cells #[] 9)).cell? _ = _
          rw [cell_of_block ((Below.heap_alloc _ _ _ (by simp)).trans (at_new _ _ _ rfl))]; rfl
        have HOc := hide hOc
        have HXc := hide hXc
        clear hOc hXc
        have HOa := hide hOa
        have HOb := hide hOb
        have HXb := hide hXb
        clear hOa hOb hXb
        go_region_held3 (fun w' => Below w7.heap.size w7 w') (first | with_reducible assumption | exact (by repeat (first | with_reducible assumption | with_reducible exact Below.refl _ _ | with_reducible refine Below.setCell ?_ (by first | exact Nat.le_refl _ | (simp; done) | (simp; omega)) _ | with_reducible refine bal ?_ _ | with_reducible refine Below.alloc ?_ (by first | exact Nat.le_refl _ | (simp; done) | (simp; omega)) _ | with_reducible refine Below.drew ?_))) (first
          | (refine step_app rfl _ _ rfl w7.heap.size 0 (.slice (some ⟨w7.heap.size, 0, none⟩) 0 0) [] ad k cap ls rfl rfl (by with_reducible exact HOa.out) (HR7.out.later hBa) (by omega) hBa.size ?_; intro v1 w1 o1 g1 t1; have B1 : Below w7.heap.size w7 w1 := bel_app hBa HOa.out g1 hBa.size; have B1a : Below w7.heap.size w7 (w1.alloc (.cells #[.string R] 9)) := bal B1 _)
          | (refine step_app rfl _ _ rfl w7.heap.size 0 (.slice (some ⟨w7.heap.size, 0, none⟩) 0 0) [] ad k cap ls rfl rfl (by with_reducible exact HOb.out) (HR7.out.later hBb) (by omega) hBb.size ?_; intro v1 w1 o1 g1 t1; have B1 : Below w7.heap.size w7 w1 := bel_app hBb HOb.out g1 hBb.size; have cX : w1.cell? ⟨w7.heap.size + 1, 0, none⟩ = some (.string R) := g1.cell HXb.out (by intro e; first | (have e2 : some w7.heap.size = some (w7.heap.size + 1) := e; simp at e2; done) | (have e2 : some (w7.heap.size + 1) = some w7.heap.size := e; simp at e2; done)); have CX := hide cX; clear cX)
          | (refine step_app rfl _ _ rfl w7.heap.size 0 (.slice (some ⟨w7.heap.size + 1, 0, none⟩) 0 0) [] ad k cap ls rfl rfl (by with_reducible exact HOc.out) (HR7.out.later hBc) (by omega) hBc.size ?_; intro v1 w1 o1 g1 t1; have B1 : Below w7.heap.size w7 w1 := bel_app hBc HOc.out g1 hBc.size; have cX : w1.cell? ⟨w7.heap.size, 0, none⟩ = some (.string R) := g1.cell HXc.out (by intro e; first | (have e2 : some (w7.heap.size + 1) = some w7.heap.size := e; simp at e2; done) | (have e2 : some w7.heap.size = some (w7.heap.size + 1) := e; simp at e2; done)); have CXc := hide cX; clear cX)
          | (refine step_app rfl _ _ rfl w7.heap.size (0 + k) v1 ([] ++ ls) (some ⟨w1.heap.size, 0, none⟩) 1 1 [mkP a1] rfl rfl (o1.alloc _) (one_row (by rw [cell_of_block (at_new _ _ _ rfl)]; rw [HX.out]; rfl)) (by omega) B1a.size ?_; intro v2 w2 o2 g2 t2; have B2 : Below w7.heap.size w7 w2 := bel_app B1a (o1.alloc _) g2 B1a.size; obtain ⟨ad2, cap2, rfl, hn2, S2⟩ := own_any o2; have S3 := SR_fix S2)
          | (refine step_app rfl _ _ rfl w7.heap.size (0 + k) v1 ([] ++ ls) (some ⟨w7.heap.size + 1, 0, none⟩) 1 1 [mkP a1] rfl rfl o1 (one_row (by rw [← HX.out]; exact CX.out)) (by omega) B1.size ?_; intro v2 w2 o2 g2 t2; have B2 : Below w7.heap.size w7 w2 := bel_app B1 o1 g2 B1.size; obtain ⟨ad2, cap2, rfl, hn2, S2⟩ := own_any o2; have S3 := SR_fix S2)
          | (refine step_app rfl _ _ rfl w7.heap.size (0 + k) v1 ([] ++ ls) (some ⟨w7.heap.size, 0, none⟩) 1 1 [mkP a1] rfl rfl o1 (one_row (by rw [← HX.out]; exact CXc.out)) (by omega) B1.size ?_; intro v2 w2 o2 g2 t2; have B2 : Below w7.heap.size w7 w2 := bel_app B1 o1 g2 B1.size; obtain ⟨ad2, cap2, rfl, hn2, S2⟩ := own_any o2; have S3 := SR_fix S2)
          | (go_simp; go_at_call 9; refine (CH ad2 cap2 _ S3 B2).mono ?_; rintro e u3 ⟨rfl, hb3⟩; have hb4 : Below w7.heap.size w7 u3 := step B2 hb3))
        all_goals
          go_wp2_with fail
          go_meet
          case rel => exact ⟨rfl, rfl, hide hb4⟩
      case rest =>
        obtain ⟨rfl, rfl, Hb9⟩ := hcut
        have B9 := hide (step B7.out Hb9.out)
        clear C0 C1 C2 C3 CH V7 B7 HR7 E7 Hb9
        by_cases hz0 : (maj (mkP a1)).2 = 0
        · have hf := more_found ls hz0 hq01.out
          rw [hf, hz0]
          have hb1 : bp (some (mkP a1)) = R := HRr.out
          rw [hb1]
          go_wp2_with fail
          go_ret
          exact ⟨by first | rfl | simp, B9.out⟩
        · have hpos : 0 < (maj (mkP a1)).2 := by have := (maj_nonneg (mkP a1)).1; omega
          have d0 : decide (0 < (maj (mkP a1)).2) = true := decide_eq_true hpos
          have hne : ((str (maj (mkP a1)).1).toList != R.toList) = true := by
            have := main_len hz0
            rw [← HRr.out, toList_data, toList_data, str_list, str_list]
            simpa using this
          have hne2 : ((str (maj (mkP a1)).1).toList == R.toList) = false := by
            have := main_len hz0
            rw [← HRr.out, toList_data, toList_data, str_list, str_list]
            simpa using this
          clear hpos hz0
          generalize find (mkP a1) Q (ls ++ [mkP a1]) = F9 at *
          go_wp2_with fail
          all_goals
            go_ret
            exact ⟨by first | rfl | simp, B9.out⟩

end Go.Proofs.YtcoakjgeadkfoaaDoor.pathMore
