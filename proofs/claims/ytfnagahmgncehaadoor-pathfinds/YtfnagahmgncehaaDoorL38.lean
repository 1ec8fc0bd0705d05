/-
  The walk of PathFinds.
-/
import Derived.Test.YtfnagahmgncehaaDoorH11
import Derived.Deep.CutBlock
import Derived.Lib.SmallJoins
import Derived.Deep.DeepCutAuto
import Derived.Deep.RegionHeld3
import Derived.BigQuiet
import Derived.Lib.QuietBelow
import Derived.Deep.QuietTactic
namespace Go.Proofs.YtfnagahmgncehaaDoor.pathFinds
set_option linter.unusedSimpArgs false
set_option linter.unusedVariables false
open Go.RowKit Go.Vr Go.Sort Go.Tx Go.Pa Go.Lib Go.Joins
attribute [local go_sem] setCellDrewN allocDrewN

theorem mixed : Tryd.prog.follows .mixedOrders = true := by kernel_rfl
theorem regrown_below {w w1 : World} (h : ∃ q : Regrown, w1 = grow (redrawn w q.d) q.os) : Below w.heap.size w w1 := by
  obtain ⟨q, rfl⟩ := h; exact below_regrown _ _ _
theorem bp_eq (x : Bs) (o : Option Bs) : ((str x).toList == (bp o).toList) = (x == (bp o).data.toList) := by rw [toList_data, toList_data, str_list]

set_option maxHeartbeats 8000000 in
set_option maxRecDepth 100000 in
theorem walk (a0 : Option Addr) (len0 cap0 : Nat) (z0 : List Int) (a1 a2 a3 : Int) (w : World) (he : Env w) (w0 : IsRow .i64 w a0 len0 cap0 z0) (h1 : -9223372036854775808 ≤ a1 ∧ a1 ≤ 9223372036854775807) (h2 : -9223372036854775808 ≤ a2 ∧ a2 ≤ 9223372036854775807) (h3 : -9223372036854775808 ≤ a3 ∧ a3 ≤ 9223372036854775807) :
    Calls Tryd.prog 7 #[.slice a0 len0 cap0, .int .i64 a1, .int .i64 a2, .int .i64 a3] w fun e w' => e = .returned (.bool true) ∧ Below w.heap.size w w' := by
  have CK := hide (known4_any w he)
  have HE := hide he
  have HR0 := hide w0.row
  have hle := HR0.out.le
  have hmx := HR0.out.mx
  unfold maxLen at hmx
  clear w0 he
  go_enter Tryd.func7, Tryd.ntmps7
  go_wp2_with fail
  refine CK.out.mono ?_
  rintro e v1 ⟨rfl, b1⟩
  have HB1 := hide b1
  clear b1 CK
  go_upto_block 0 with fail
  go_cut [9] (fun l wc => ∃ (k : Nat) (ls : List Bs), k ≤ 15 ∧ ls.length = k ∧ Hid (∀ s ∈ ls, s.length ≤ 15) ∧ Hid (wc.ownsRow v1.heap.size 9 1 l k (ls.map encStr)) ∧ Hid (Below v1.heap.size v1 wc))
  case first =>
    go_wp2_with fail
    go_loopw [9, 10] (fun v i wr => ∃ (k : Nat) (ls : List Bs), k ≤ 15 ∧ i = .int .i64 k ∧ ls.length = k ∧ Hid (∀ s ∈ ls, s.length ≤ 15) ∧ Hid (wr.ownsRow v1.heap.size 9 1 v k (ls.map encStr)) ∧ Hid (Below v1.heap.size v1 wr)) (fun _ i _ => 15 - (RowKit.intOf i).toNat)
    case atStart => exact ⟨0, [], by omega, rfl, rfl, hide (fun s hs => by simp at hs), hide (World.ownsRow_nil _ _ _ _), hide (Below.refl _ _)⟩
    case round =>
      obtain ⟨k, ls, hk, rfl, hlk, HOK, HOWN, HBv⟩ := hrel
      have HB := hide (step HB1.out HBv.out)
      by_cases hi : k < len0 ∧ k < 15
      · obtain ⟨hi0, hi2⟩ := hi
        obtain ⟨x0, o0, rfl, hc0⟩ := row_at (HR0.out.later HB.out) (by omega)
        have e0 := hc0 k hi0
        have y0 := row_bd (HR0.out.later HB.out) k hi0
        generalize (List.take len0 z0).getD k 0 = n0 at *
        clear hc0
        have j1 : (0 : Int) ≤ (k : Int) := by omega
        have j2 : (k : Int) < (len0 : Int) := by omega
        have j4 : (k : Int) < 15 := by omega
        have CM := hide (fun W => make4_any n0 W y0)
        have hm := hide (mkP_ok n0).2.2
        generalize mkP n0 = m0 at *
        clear y0 HR0
        go_wp2_with fail
        refine (CM.out _).mono ?_
        rintro e u2 ⟨rfl, b2⟩
        have HB2 := hide (step HBv.out b2)
        have hs2 := HB2.out.size
        have HO2 := hide (own_later HOWN.out b2)
        clear b2 HB HOWN e0
        go_wp2_with (refine wpList_app rfl _ _ rfl v1.heap.size k _ ls (some ⟨u2.heap.size, 0, none⟩) 1 1 [m0] rfl rfl (HO2.out.alloc _) (one_row (by simp [go_sem])) (by omega) (by simp; omega) ?_; intro v' w' o1 g1 t1)
        have HB3 := hide (bel_app (HB2.out.alloc HB2.out.size _) (HO2.out.alloc _) g1 (by simp; omega))
        go_roundw
        case rel => exact ⟨k + 1, ls ++ [m0], by omega, by go_num, by rw [List.length_append, hlk]; rfl, hide (fun s hs => by rcases List.mem_append.1 hs with h | h; exact HOK.out s h; rw [List.mem_singleton.1 h]; exact hm.out), hide (by exact o1), HB3⟩
        case measure => simp [RowKit.intOf]; omega
      · clear HR0
        go_wp2_with fail
        all_goals first
          | (exfalso; omega)
          | (go_meet; case rel => exact ⟨k, ls, hk, hlk, HOK, HOWN, HBv⟩)
  case rest =>
    obtain ⟨k, ls, hk, hlk, HOK, HOWN, HBv⟩ := hcut
    have HB := hide (step HB1.out HBv.out)
    clear HR0 hle hmx
    obtain ⟨U, hU⟩ : ∃ U, U = wc := ⟨_, rfl⟩
    subst hU
    obtain ⟨ad, cap, rfl, hcp, hrow⟩ := own_any HOWN.out
    have HROW := hide hrow
    have CA := hide (fun W => make4_any a1 W h1)
    have hrs : (str (mkP a1)).size ≤ 15 := by rw [str_size]; exact (mkP_ok a1).2.2
    have HLS := hide (fun s hs => Nat.le_trans (HOK.out s hs) (show 15 ≤ 100 by omega))
    clear hrow HOWN HBv HB1
    generalize str (mkP a1) = R at *
    go_wp2_with fail
    refine (make_any a2 a3 _ h2 h3).mono ?_
    rintro e w2 ⟨v, rfl, -, b2⟩
    obtain ⟨a, b, c, p⟩ := v
    have V0 := hide (VarAt.new w2 ⟨a, b, c, p⟩)
    have hN : U.heap.size ≤ w2.heap.size := b2.size
    have B2 := hide (Below.alloc b2 b2.size (.cells #[.int .i64 a, .int .i64 b, .int .i64 c, .string p] 33))
    clear h3
    obtain ⟨vlt, c0, c1, c2, c3, f0, -, -, -⟩ := V0.out
    go_wp2_with fail
    refine (within4_nat _ _ _ (by omega) (by omega) (by omega) (by omega)).mono ?_
    rintro e w3 ⟨Q0, rfl, -, -, hw⟩
    rw [hw]
    clear hw w3
    have V1 := hide (VarAt.new w2 ⟨(Q0 : Int), b, c, p⟩)
    have B3 := hide (Below.alloc b2 b2.size (.cells #[.int .i64 (Q0 : Int), .int .i64 b, .int .i64 c, .string p] 33))
    clear h2 b2
    go_wp2_with fail
    generalize w2.alloc (.cells #[.int .i64 (Q0 : Int), .int .i64 b, .int .i64 c, .string p] 33) = W3 at *
    generalize w2.heap.size = N at *
    generalize (Q0 : Int) = Q at *
    clear V0 B2 vlt c0 c1 c2 c3 f0
    refine (CA.out _).mono ?_
    rintro e w4 ⟨rfl, b4⟩
    have V4 := hide (V1.out.later b4)
    have B4 := hide (step B3.out b4)
    clear b4 V1 B3 CA
    go_upto_region 11 with fail
    go_cut [60] (fun z wz => ∃ D : Bool, z = .bool D ∧ (D = true → 0 < k) ∧ wz = w4)
    case first =>
      by_cases hk0 : 0 < k
      · have dk : decide ((0 : Int) < (k : Int)) = true := decide_eq_true (by omega)
        go_wp2_with fail
        refine (within4_nat _ _ _ (by omega) (by omega) (by omega) (by omega)).mono ?_
        rintro e w5 ⟨z, rfl, -, -, hw⟩
        rw [hw]
        clear hw w5
        generalize hD : decide ((0 : Int) < (z : Int)) = D at *
        go_wp2_with fail
        all_goals
          go_meet
          case rel => exact ⟨_, rfl, fun _ => hk0, by first | rfl | trivial⟩
      · have dk : decide ((0 : Int) < (k : Int)) = false := decide_eq_false (by omega)
        go_wp2_with fail
        go_meet
        case rel => exact ⟨false, rfl, fun h => absurd h (by simp), by first | rfl | trivial⟩
    case rest =>
      obtain ⟨D, rfl, hD, hw⟩ := hcut
      rw [hw]
      clear hw wc
      go_upto_if 60 with fail
      go_cut [12] (fun r wz => ∃ rb : ByteArray, r = .string rb ∧ rb.size ≤ 15 ∧ Hid (VarAt wz N ⟨Q, b, c, p⟩) ∧ Hid (Below U.heap.size U wz))
      case first =>
        cases D with
        | false =>
          go_wp2_with fail
          go_meet
          case rel => exact ⟨R, rfl, hrs, V4, B4⟩
        | true =>
          have hk0 := hD rfl
          go_wp2_with fail
          refine (within4_nat _ _ _ (by omega) (by omega) (by omega) (by omega)).mono ?_
          rintro e w5 ⟨j, rfl, hj, -, hw⟩
          rw [hw]
          clear hw w5
          have hjk : j < k := by omega
          obtain ⟨rb, off, e, hc0⟩ := (HROW.out.later B4.out).at_ hk0
          subst e
          have hc := hc0 j hjk
          have hmem : ls.getD j [] ∈ ls := by
            rw [List.getD_eq_getElem?_getD, List.getElem?_eq_getElem (by omega)]; exact List.getElem_mem _
          have hxl := HOK.out _ hmem
          have hml := maj_len (ls.getD j [])
          clear hc0 hmem
          generalize ls.getD j [] = x at *
          have CM := hide (fun W => prmajor_any (str x) W (by rw [str_size]; omega))
          rw [str_list] at CM
          unfold mval at CM
          have hms : (str (maj x).1).size ≤ 15 := by rw [str_size]; omega
          have i1 : (0 : Int) ≤ (j : Int) := by omega
          have i2 : (j : Int) < (k : Int) := by omega
          clear hxl hml hj hjk
          go_wp2_with fail
          refine (CM.out _).mono ?_
          rintro e w6 ⟨rfl, b6⟩
          go_wp2_with fail
          go_meet
          case rel => exact ⟨_, rfl, hms, hide (V4.out.later b6), hide (step B4.out b6)⟩
      case rest =>
        obtain ⟨rb, rfl, hrb, V5, B5⟩ := hcut
        obtain ⟨w5, hU⟩ : ∃ W, W = wc := ⟨_, rfl⟩
        subst hU
        clear V4 B4 hD hrs
        have CF := hide (pfind_any ad k cap ls rb ⟨Q, b, c, p⟩ w5 (HROW.out.later B5.out) (by omega) HLS.out (HE.out.later (step HB.out B5.out)))
        have hFo := hide (found_is rb.data.toList Q ls)
        unfold fval at CF
        simp only at CF
        have CG := hide (fun W (hb : Below U.heap.size U W) => prfind_any ad k cap ls rb ⟨Q, b, c, p⟩ W (HROW.out.later hb) (by omega) HLS.out (by omega))
        unfold fval at CG
        simp only at CG
        generalize find rb.data.toList Q ls = F at *
        have hps : (bp F).size ≤ 15 := by
          cases F with
          | none => decide
          | some q => have := HOK.out q hFo.out.1; show (str q).size ≤ 15; rw [str_size]; exact this
        have CM := hide (fun W => prmajor_any (bp F) W (by omega))
        unfold mval at CM
        obtain ⟨vlt, c0, c1, c2, c3, -, -, -, -⟩ := V5.out
        go_wp2_with fail
        refine CF.out.mono ?_
        rintro e w6 ⟨rfl, b6⟩
        have V6 := hide (V5.out.later b6)
        have B6 := hide (step B5.out b6)
        clear vlt c0 c1 c2 c3 V5 B5 b6 CF
        obtain ⟨vlt, c0, c1, c2, c3, -, -, -, -⟩ := V6.out
        go_wp2_with fail
        refine (CG.out _ B6.out).mono ?_
        rintro e w7 ⟨rfl, b7⟩
        have V7 := hide (V6.out.later b7)
        have B7 := hide (step B6.out b7)
        clear vlt c0 c1 c2 c3 V6 B6 b7 CG
        have hml := maj_len (bp F).data.toList
        rw [len_eq] at hml
        have hms : (str (maj (bp F).data.toList).1).size ≤ 15 := by rw [str_size]; omega
        have HMP := hide (rfl : maj (bp F).data.toList = maj (bp F).data.toList)
        generalize hMQ : maj (bp F).data.toList = MQ at *
        obtain ⟨mq, nq⟩ := MQ
        have HMQ := hide hMQ
        clear hMQ hml HMP
        simp only at CM hms
        generalize hPB : bp F = PB at *
        have HPB := hide hPB
        clear hPB
        generalize hFS0 : F.isSome = FS at *
        have HFS := hide hFS0
        clear hFS0
        go_wp2_with fail
        refine (CM.out _).mono ?_
        rintro e w8 ⟨rfl, b8⟩
        have V8 := hide (V7.out.later b8)
        have B8 := hide (step B7.out b8)
        clear V7 B7 b8 CM
        go_wp2_with fail
        go_loopw [21, 22] (fun th iv wr => ∃ (i : Nat) (D : Bool), i ≤ k ∧ iv = .int .i64 i ∧ th = .bool D ∧ Hid (D = (ls.take i).contains PB.data.toList) ∧ Hid (VarAt wr N ⟨Q, b, c, p⟩) ∧ Hid (Below U.heap.size U wr)) (fun _ iv _ => k - (RowKit.intOf iv).toNat)
        case atStart => exact ⟨0, false, by omega, rfl, rfl, hide rfl, V8, B8⟩
        case round =>
          obtain ⟨i, D, hi, rfl, rfl, HD, V, B⟩ := hrel
          clear V8 B8
          by_cases hlt : i < k
          · obtain ⟨g, off, e, hcell⟩ := (HROW.out.later B.out).at_ (by omega)
            subst e
            have hc0 := hide (hcell i hlt)
            have hc := hc0.out
            have hmem : ls.getD i [] ∈ ls := by
              rw [List.getD_eq_getElem?_getD, List.getElem?_eq_getElem (by omega)]; exact List.getElem_mem _
            have hxl := HOK.out _ hmem
            have HT := hide (take_getD ls i (by omega))
            have hml := maj_len (ls.getD i [])
            clear hcell
            generalize ls.getD i [] = x at *
            have hxs : (str x).size ≤ 15 := by rw [str_size]; exact hxl
            have CM := hide (fun W => prmajor_any (str x) W (by omega))
            rw [str_list] at CM
            unfold mval at CM
            have hmx : (str (maj x).1).size ≤ 15 := by rw [str_size]; omega
            have CW0 := hide (fun W => prwithin_any rb (str (maj x).1) W (by omega) (by omega))
            rw [str_list] at CW0
            have CF0 := hide (fun W => prfits_any (str x) ⟨Q, b, c, p⟩ W (by omega))
            rw [str_list] at CF0
            simp only at CF0
            have HCD : Hid ((inside rb.data.toList (maj x).1 && fits x Q && (!FS || decide ((str mq).size < (str (maj x).1).size))) = false) := by
              show _ = _
              cases hm : (inside rb.data.toList (maj x).1 && fits x Q) with
              | false => rfl
              | true =>
                rw [Bool.and_eq_true] at hm
                have hmay : may rb.data.toList Q x = true := may_yes hm.2 hm.1
                have hfs := HFS.out
                have hpb := HPB.out
                have hmq := HMQ.out
                have hfo := hFo.out
                cases F with
                | none =>
                  have := hfo x hmem
                  rw [hmay] at this
                  exact absurd this (by simp)
                | some q =>
                  have h9 := cmpF_len (hfo.2.2 x hmem hmay)
                  have h8 : (maj q).1 = mq := by rw [← hpb] at hmq; have : maj q = (mq, nq) := hmq; rw [this]
                  rw [h8] at h9
                  rw [← hfs, str_size, str_size]
                  simp
                  omega
            have hx1 : ((str x).toList == PB.toList) = (PB.data.toList == x) := by
              rw [toList_data, toList_data, str_list, Bool.eq_iff_iff, beq_iff_eq, beq_iff_eq]; exact eq_comm
            have HDn : Hid ((D || (PB.data.toList == x)) = (ls.take (i + 1)).contains PB.data.toList) := by
              show _ = _
              rw [HT.out, List.contains_append, ← HD.out, List.contains_cons, List.contains_nil, Bool.or_false]
            have hi1 : (0 : Int) ≤ (i : Int) := by omega
            have hi2 : (i : Int) < (k : Int) := by omega
            have dk : decide ((i : Int) < (k : Int)) = true := decide_eq_true hi2
            generalize inside rb.data.toList (maj x).1 = I at *
            generalize fits x Q = FF at *
            generalize hms2 : str (maj x).1 = mx at *
            generalize (maj x).2 = nx at *
            have HL := hide (And.intro hxs hmx)
            clear hmem hxl HT hml hms2 hxs hmx HD
            cases D with
            | true =>
              have HD2 : Hid (true = (ls.take (i + 1)).contains PB.data.toList) := by show _ = _; rw [← HDn.out]; simp
              cases I with
              | false =>
                go_wp2_with fail
                refine (CM.out _).mono ?_
                rintro e w9 ⟨rfl, b9⟩
                have V9 := hide (V.out.later b9)
                have B9 := hide (step B.out b9)
                have hc := cellLater b9 hc0.out
                obtain ⟨vlt, c0, c1, c2, c3, -, -, -, -⟩ := V9.out
                have k0 := cell_regrown c0
                have k1 := cell_regrown c1
                have k2 := cell_regrown c2
                have k3 := cell_regrown c3
                have k4 := cell_regrown hc
                have CW := hide (fun d os => Calls.regrown_of ((CW0.out (grow (redrawn w9 d) os)).mono fun e w' h => ⟨h.1, by rw [h.2]; exact Below.refl _ _⟩))
                have CF := hide (fun d os => Calls.regrown_of (CF0.out (grow (redrawn w9 d) os)))
                clear b9 CW0 CF0 CM hc0
                go_upto_region 25 with fail
                clear c0 c1 c2 c3 hc vlt
                refine wp_region_quiet_below mixed (by kernel_rfl) ?_
                quiet_step (fail)
                quiet_step (fail)
                quiet_step (exact CW.out _ _)
                iterate 19 (first | go_big_quiet_skip | quiet_step (fail))
                refine wpQuiet_nil ?_
                intro w10 hw10
                have r10 := regrown_below hw10
                go_wp2_with fail
                go_roundw
                case rel => exact ⟨i + 1, true, by omega, by go_num, by first | rfl | trivial | simp, HD2, hide (V9.out.later r10), hide (step B9.out r10)⟩
                case measure => simp [RowKit.intOf]; omega
              | true =>
                cases FF with
                | false =>
                  go_wp2_with fail
                  refine (CM.out _).mono ?_
                  rintro e w9 ⟨rfl, b9⟩
                  have V9 := hide (V.out.later b9)
                  have B9 := hide (step B.out b9)
                  have hc := cellLater b9 hc0.out
                  obtain ⟨vlt, c0, c1, c2, c3, -, -, -, -⟩ := V9.out
                  have k0 := cell_regrown c0
                  have k1 := cell_regrown c1
                  have k2 := cell_regrown c2
                  have k3 := cell_regrown c3
                  have k4 := cell_regrown hc
                  have CW := hide (fun d os => Calls.regrown_of ((CW0.out (grow (redrawn w9 d) os)).mono fun e w' h => ⟨h.1, by rw [h.2]; exact Below.refl _ _⟩))
                  have CF := hide (fun d os => Calls.regrown_of (CF0.out (grow (redrawn w9 d) os)))
                  clear b9 CW0 CF0 CM hc0
                  go_upto_region 25 with fail
                  clear c0 c1 c2 c3 hc vlt
                  refine wp_region_quiet_below mixed (by kernel_rfl) ?_
                  quiet_step (fail)
                  quiet_step (fail)
                  quiet_step (exact CW.out _ _)
                  iterate 6 (quiet_step (fail))
                  quiet_step (exact CF.out _ _)
                  iterate 12 (first | go_big_quiet_skip | quiet_step (fail))
                  refine wpQuiet_nil ?_
                  intro w10 hw10
                  have r10 := regrown_below hw10
                  go_wp2_with fail
                  go_roundw
                  case rel => exact ⟨i + 1, true, by omega, by go_num, by first | rfl | trivial | simp, HD2, hide (V9.out.later r10), hide (step B9.out r10)⟩
                  case measure => simp [RowKit.intOf]; omega
                | true =>
                  have hcd := HCD.out
                  simp only [Bool.true_and] at hcd
                  rw [Bool.or_eq_false_iff] at hcd
                  obtain ⟨hcd1, hcd2⟩ := hcd
                  have hFS : FS = true := by simpa using hcd1
                  have hcd3 : decide (((str mq).size : Int) < (mx.size : Int)) = false := by simpa using hcd2
                  have hcd5 : ¬ (str mq).size < mx.size := by simpa using hcd2
                  have hcd4 : decide ((str mq).size < mx.size) = false := decide_eq_false hcd5
                  subst hFS
                  clear hcd1 hcd2
                  go_wp2_with fail
                  refine (CM.out _).mono ?_
                  rintro e w9 ⟨rfl, b9⟩
                  have V9 := hide (V.out.later b9)
                  have B9 := hide (step B.out b9)
                  have hc := cellLater b9 hc0.out
                  obtain ⟨vlt, c0, c1, c2, c3, -, -, -, -⟩ := V9.out
                  have k0 := cell_regrown c0
                  have k1 := cell_regrown c1
                  have k2 := cell_regrown c2
                  have k3 := cell_regrown c3
                  have k4 := cell_regrown hc
                  have CW := hide (fun d os => Calls.regrown_of ((CW0.out (grow (redrawn w9 d) os)).mono fun e w' h => ⟨h.1, by rw [h.2]; exact Below.refl _ _⟩))
                  have CF := hide (fun d os => Calls.regrown_of (CF0.out (grow (redrawn w9 d) os)))
                  clear b9 CW0 CF0 CM hc0
                  go_upto_region 25 with fail
                  clear c0 c1 c2 c3 hc vlt
                  refine wp_region_quiet_below mixed (by kernel_rfl) ?_
                  quiet_step (fail)
                  quiet_step (fail)
                  quiet_step (exact CW.out _ _)
                  iterate 6 (quiet_step (fail))
                  quiet_step (exact CF.out _ _)
                  iterate 12 (first | go_big_quiet_skip | quiet_step (fail))
                  refine wpQuiet_nil ?_
                  intro w10 hw10
                  have r10 := regrown_below hw10
                  go_wp2_with fail
                  go_roundw
                  case rel => exact ⟨i + 1, true, by omega, by go_num, by first | rfl | trivial | simp, HD2, hide (V9.out.later r10), hide (step B9.out r10)⟩
                  case measure => simp [RowKit.intOf]; omega
            | false =>
              have HD2 : Hid ((PB.data.toList == x) = (ls.take (i + 1)).contains PB.data.toList) := by show _ = _; rw [← HDn.out]; simp
              cases I with
              | false =>
                go_wp2_with fail
                refine (CM.out _).mono ?_
                rintro e w9 ⟨rfl, b9⟩
                have V9 := hide (V.out.later b9)
                have B9 := hide (step B.out b9)
                have hc := cellLater b9 hc0.out
                obtain ⟨vlt, c0, c1, c2, c3, -, -, -, -⟩ := V9.out
                have k0 := cell_regrown c0
                have k1 := cell_regrown c1
                have k2 := cell_regrown c2
                have k3 := cell_regrown c3
                have k4 := cell_regrown hc
                have CW := hide (fun d os => Calls.regrown_of ((CW0.out (grow (redrawn w9 d) os)).mono fun e w' h => ⟨h.1, by rw [h.2]; exact Below.refl _ _⟩))
                have CF := hide (fun d os => Calls.regrown_of (CF0.out (grow (redrawn w9 d) os)))
                clear b9 CW0 CF0 CM hc0
                go_upto_region 25 with fail
                clear c0 c1 c2 c3 hc vlt
                refine wp_region_quiet_below mixed (by kernel_rfl) ?_
                quiet_step (fail)
                quiet_step (fail)
                quiet_step (exact CW.out _ _)
                iterate 19 (first | go_big_quiet_skip | quiet_step (fail))
                refine wpQuiet_nil ?_
                intro w10 hw10
                have r10 := regrown_below hw10
                go_wp2_with fail
                go_roundw
                case rel => exact ⟨i + 1, (PB.data.toList == x), by omega, by go_num, by first | rfl | trivial | simp, HD2, hide (V9.out.later r10), hide (step B9.out r10)⟩
                case measure => simp [RowKit.intOf]; omega
              | true =>
                cases FF with
                | false =>
                  go_wp2_with fail
                  refine (CM.out _).mono ?_
                  rintro e w9 ⟨rfl, b9⟩
                  have V9 := hide (V.out.later b9)
                  have B9 := hide (step B.out b9)
                  have hc := cellLater b9 hc0.out
                  obtain ⟨vlt, c0, c1, c2, c3, -, -, -, -⟩ := V9.out
                  have k0 := cell_regrown c0
                  have k1 := cell_regrown c1
                  have k2 := cell_regrown c2
                  have k3 := cell_regrown c3
                  have k4 := cell_regrown hc
                  have CW := hide (fun d os => Calls.regrown_of ((CW0.out (grow (redrawn w9 d) os)).mono fun e w' h => ⟨h.1, by rw [h.2]; exact Below.refl _ _⟩))
                  have CF := hide (fun d os => Calls.regrown_of (CF0.out (grow (redrawn w9 d) os)))
                  clear b9 CW0 CF0 CM hc0
                  go_upto_region 25 with fail
                  clear c0 c1 c2 c3 hc vlt
                  refine wp_region_quiet_below mixed (by kernel_rfl) ?_
                  quiet_step (fail)
                  quiet_step (fail)
                  quiet_step (exact CW.out _ _)
                  iterate 6 (quiet_step (fail))
                  quiet_step (exact CF.out _ _)
                  iterate 12 (first | go_big_quiet_skip | quiet_step (fail))
                  refine wpQuiet_nil ?_
                  intro w10 hw10
                  have r10 := regrown_below hw10
                  go_wp2_with fail
                  go_roundw
                  case rel => exact ⟨i + 1, (PB.data.toList == x), by omega, by go_num, by first | rfl | trivial | simp, HD2, hide (V9.out.later r10), hide (step B9.out r10)⟩
                  case measure => simp [RowKit.intOf]; omega
                | true =>
                  have hcd := HCD.out
                  simp only [Bool.true_and] at hcd
                  rw [Bool.or_eq_false_iff] at hcd
                  obtain ⟨hcd1, hcd2⟩ := hcd
                  have hFS : FS = true := by simpa using hcd1
                  have hcd3 : decide (((str mq).size : Int) < (mx.size : Int)) = false := by simpa using hcd2
                  have hcd5 : ¬ (str mq).size < mx.size := by simpa using hcd2
                  have hcd4 : decide ((str mq).size < mx.size) = false := decide_eq_false hcd5
                  subst hFS
                  clear hcd1 hcd2
                  go_wp2_with fail
                  refine (CM.out _).mono ?_
                  rintro e w9 ⟨rfl, b9⟩
                  have V9 := hide (V.out.later b9)
                  have B9 := hide (step B.out b9)
                  have hc := cellLater b9 hc0.out
                  obtain ⟨vlt, c0, c1, c2, c3, -, -, -, -⟩ := V9.out
                  have k0 := cell_regrown c0
                  have k1 := cell_regrown c1
                  have k2 := cell_regrown c2
                  have k3 := cell_regrown c3
                  have k4 := cell_regrown hc
                  have CW := hide (fun d os => Calls.regrown_of ((CW0.out (grow (redrawn w9 d) os)).mono fun e w' h => ⟨h.1, by rw [h.2]; exact Below.refl _ _⟩))
                  have CF := hide (fun d os => Calls.regrown_of (CF0.out (grow (redrawn w9 d) os)))
                  clear b9 CW0 CF0 CM hc0
                  go_upto_region 25 with fail
                  clear c0 c1 c2 c3 hc vlt
                  refine wp_region_quiet_below mixed (by kernel_rfl) ?_
                  quiet_step (fail)
                  quiet_step (fail)
                  quiet_step (exact CW.out _ _)
                  iterate 6 (quiet_step (fail))
                  quiet_step (exact CF.out _ _)
                  iterate 12 (first | go_big_quiet_skip | quiet_step (fail))
                  refine wpQuiet_nil ?_
                  intro w10 hw10
                  have r10 := regrown_below hw10
                  go_wp2_with fail
                  go_roundw
                  case rel => exact ⟨i + 1, (PB.data.toList == x), by omega, by go_num, by first | rfl | trivial | simp, HD2, hide (V9.out.later r10), hide (step B9.out r10)⟩
                  case measure => simp [RowKit.intOf]; omega
          · have dk : decide ((i : Int) < (k : Int)) = false := decide_eq_false (by omega)
            have hD2 := HD.out
            rw [List.take_of_length_le (by omega)] at hD2
            have HDD := hide hD2
            clear hD2 HD
            cases F with
            | none =>
              have hp0 : PB = ⟨#[]⟩ := HPB.out.symm
              have hfs : FS = false := HFS.out.symm
              subst hfs
              have e0 : PB.toList.isEmpty = true := by rw [hp0, toList_data]; rfl
              clear hp0
              go_wp2_with fail
              go_ret
              exact ⟨rfl, step HB.out B.out⟩
            | some q =>
              have hfs : FS = true := HFS.out.symm
              subst hfs
              obtain ⟨f1, f2, f3⟩ := hFo.out
              have hpq : PB.data.toList = q := by rw [← HPB.out]; exact str_list q
              have hDt : D = true := by rw [HDD.out, hpq]; simpa using f1
              subst hDt
              have hmq : (maj q).1 = mq := by have := HMQ.out; rw [hpq] at this; rw [this]
              unfold may at f2
              rw [Bool.and_eq_true, hmq] at f2
              have C1 := hide (fun W => pwithin_any rb (str mq) W)
              rw [str_list, f2.2] at C1
              have C2 := hide (fun W hW => pfits_any PB ⟨Q, b, c, p⟩ W (by omega) hW)
              rw [hpq] at C2
              simp only [f2.1] at C2
              have E9 := hide (HE.out.later (step HB.out B.out))
              obtain ⟨vlt, c0, c1, c2, c3, -, -, -, -⟩ := V.out
              clear hpq hmq f1 f2 f3
              go_wp2_with fail
              refine (C1.out _).mono ?_
              rintro e w9 ⟨rfl, hw⟩
              rw [hw]
              clear hw w9
              go_wp2_with fail
              refine (C2.out _ E9.out).mono ?_
              rintro e w10 ⟨rfl, b10⟩
              go_wp2_with fail
              go_ret
              exact ⟨rfl, step (step HB.out B.out) b10⟩

end Go.Proofs.YtfnagahmgncehaaDoor.pathFinds
