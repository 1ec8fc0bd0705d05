/-
  The walk of PathOrder.
-/
import Derived.Test.YtcoakjgeadkfoaaDoorH11
import Derived.Deep.CutBlock
import Derived.Lib.SmallJoins
import Derived.Deep.DeepCutAuto
import Derived.Deep.RegionHeld3
import Derived.BigQuiet
namespace Go.Proofs.YtcoakjgeadkfoaaDoor.pathOrder
set_option linter.unusedSimpArgs false
set_option linter.unusedVariables false
open Go.RowKit Go.Vr Go.Sort Go.Tx Go.Pa Go.Lib Go.Joins
attribute [local go_sem] setCellDrewN allocDrewN

theorem own_form {w : World} {B n : Nat} {v : Value} {ts : List (List UInt8)} (h : w.ownsRow B 9 1 v n (ts.map encStr)) : (∃ c, v = .slice none n c ∧ Hid (c = n) ∧ Hid (n = 0)) ∨ ∃ g cap, v = .slice (some ⟨g, 0, none⟩) n cap ∧ n ≤ cap ∧ cap ≤ maxLen := by
  rcases h.2 with ⟨rfl, h'⟩ | ⟨g, cap, cur, rfl, hb, hg, hnc, hcm, _⟩
  · subst h'; exact .inl ⟨0, rfl, rfl, rfl⟩
  · exact .inr ⟨g, cap, rfl, hnc, hcm⟩

theorem nil_row (w : World) (n c : Nat) (h : n = 0) : SRow w none n c [] := ⟨by simp [h], fun _ => h, fun _ e => nomatch e⟩

theorem SR_len {w : World} {a : Option Addr} {n m c : Nat} {ls : List Bs} (h : SRow w a n c ls) (e : n = m) : SRow w a m c ls := e ▸ h

set_option maxHeartbeats 8000000 in
set_option maxRecDepth 100000 in
theorem walk (a0 : Option Addr) (len0 cap0 : Nat) (z0 : List Int) (a1 a2 a3 : Int) (w : World) (he : Env w) (w0 : IsRow .i64 w a0 len0 cap0 z0) (h1 : -9223372036854775808 ≤ a1 ∧ a1 ≤ 9223372036854775807) (h2 : -9223372036854775808 ≤ a2 ∧ a2 ≤ 9223372036854775807) (h3 : -9223372036854775808 ≤ a3 ∧ a3 ≤ 9223372036854775807) :
    Calls Tryd.prog 3 #[.slice a0 len0 cap0, .int .i64 a1, .int .i64 a2, .int .i64 a3] w fun e w' => e = .returned (.bool true) ∧ Below w.heap.size w w' := by
  have CK := hide (known4_any w he)
  have HE := hide he
  have HR0 := hide w0.row
  have hle := HR0.out.le
  have hmx := HR0.out.mx
  unfold maxLen at hmx
  clear w0 he
  go_enter Tryd.func3, Tryd.ntmps3
  go_wp2_with fail
  refine CK.out.mono ?_
  rintro e v1 ⟨rfl, b1⟩
  have HB1 := hide b1
  clear b1 CK
  go_upto_block 0 with fail
  go_cut [9] (fun l wc => ∃ (k : Nat) (ls : List Bs), k ≤ 12 ∧ ls.length = k ∧ Hid (∀ s ∈ ls, s.length ≤ 15) ∧ Hid (wc.ownsRow v1.heap.size 9 1 l k (ls.map encStr)) ∧ Hid (Below v1.heap.size v1 wc))
  case first =>
    go_wp2_with fail
    go_loopw [9, 10] (fun v i wr => ∃ (k : Nat) (ls : List Bs), k ≤ 12 ∧ i = .int .i64 k ∧ ls.length = k ∧ Hid (∀ s ∈ ls, s.length ≤ 15) ∧ Hid (wr.ownsRow v1.heap.size 9 1 v k (ls.map encStr)) ∧ Hid (Below v1.heap.size v1 wr)) (fun _ i _ => 12 - (RowKit.intOf i).toNat)
    case atStart => exact ⟨0, [], by omega, rfl, rfl, hide (fun s hs => by simp at hs), hide (World.ownsRow_nil _ _ _ _), hide (Below.refl _ _)⟩
    case round =>
      obtain ⟨k, ls, hk, rfl, hlk, HOK, HOWN, HBv⟩ := hrel
      have HB := hide (step HB1.out HBv.out)
      by_cases hi : k < len0 ∧ k < 12
      · obtain ⟨hi0, hi2⟩ := hi
        obtain ⟨x0, o0, rfl, hc0⟩ := row_at (HR0.out.later HB.out) (by omega)
        have e0 := hc0 k hi0
        have y0 := row_bd (HR0.out.later HB.out) k hi0
        generalize (List.take len0 z0).getD k 0 = n0 at *
        clear hc0
        have j1 : (0 : Int) ≤ (k : Int) := by omega
        have j2 : (k : Int) < (len0 : Int) := by omega
        have j4 : (k : Int) < 12 := by omega
        have CM := hide (fun W => make4_any n0 W y0)
        have hm := hide (mkP_ok n0).2.2
        generalize mkP n0 = m0 at *
        clear y0 HR0
        go_wp2_with fail
        refine (CM.out _).mono ?_
        rintro e u2 ⟨rfl, b2⟩
        have HB2 := hide (step HBv.out b2)
        have hs2 := HB2.out.size
        have HO2 := hide (own_later HOWN.out b2)
        clear b2 HB HOWN e0
        go_wp2_with (refine wpList_app rfl _ _ rfl v1.heap.size k _ ls (some ⟨u2.heap.size, 0, none⟩) 1 1 [m0] rfl rfl (HO2.out.alloc _) (one_row (by simp [go_sem])) (by omega) (by simp; omega) ?_; intro v' w' o1 g1 t1)
        have HB3 := hide (bel_app (HB2.out.alloc HB2.out.size _) (HO2.out.alloc _) g1 (by simp; omega))
        go_roundw
        case rel => exact ⟨k + 1, ls ++ [m0], by omega, by go_num, by rw [List.length_append, hlk]; rfl, hide (fun s hs => by rcases List.mem_append.1 hs with h | h; exact HOK.out s h; rw [List.mem_singleton.1 h]; exact hm.out), hide (by exact o1), HB3⟩
        case measure => simp [RowKit.intOf]; omega
      · clear HR0
        go_wp2_with fail
        all_goals first
          | (exfalso; omega)
          | (go_meet; case rel => exact ⟨k, ls, hk, hlk, HOK, HOWN, HBv⟩)
  case rest =>
    obtain ⟨k, ls, hk, hlk, HOK, HOWN, HBv⟩ := hcut
    have HB := hide (step HB1.out HBv.out)
    clear HR0 hle hmx
    obtain ⟨U, hU⟩ : ∃ U, U = wc := ⟨_, rfl⟩
    subst hU
    rcases own_form HOWN.out with ⟨cap, rfl, hck, hn0⟩ | ⟨g, cap, rfl, hkc, hcm⟩
    · have hln : ls = [] := List.eq_nil_of_length_eq_zero (by rw [hlk]; exact hn0.out)
      subst hln
      have hlk0 := hide hlk
      clear hlk
      have HROW := hide (nil_row U k cap hn0.out)
      have CA := hide (fun W => make4_any a1 W h1)
      have hrs : (str (mkP a1)).size ≤ 15 := by rw [str_size]; exact (mkP_ok a1).2.2
      have HLS : Hid (∀ s ∈ ([] : List Bs), s.length ≤ 100) := hide (fun s hs => Nat.le_trans (HOK.out s hs) (show 15 ≤ 100 by omega))
      clear HBv HB1
      generalize str (mkP a1) = R at *
      go_wp2_with fail
      refine (within4_nat _ _ _ (by omega) (by omega) (by omega) (by omega)).mono ?_
      rintro e w1 ⟨q, rfl, hq, -, hw⟩
      rw [hw]
      clear hw w1 h3
      have hqk : q ≤ k := by omega
      clear hq
      go_wp2_with fail
      refine (make_any a2 0 _ h2 (by omega)).mono ?_
      rintro e w2 ⟨v, rfl, -, b2⟩
      obtain ⟨a, b, c, p⟩ := v
      have V0 := hide (VarAt.new w2 ⟨a, b, c, p⟩)
      have hN : U.heap.size ≤ w2.heap.size := b2.size
      obtain ⟨vlt, c0, c1, c2, c3, f0, -, -, -⟩ := V0.out
      go_wp2_with fail
      refine (within4_nat _ _ _ (by omega) (by omega) (by omega) (by omega)).mono ?_
      rintro e w3 ⟨Q0, rfl, -, -, hw⟩
      rw [hw]
      clear hw w3
      have V1 := hide (VarAt.new w2 ⟨(Q0 : Int), b, c, p⟩)
      have B3 := hide (Below.alloc b2 b2.size (.cells #[.int .i64 (Q0 : Int), .int .i64 b, .int .i64 c, .string p] 28))
      clear h2 b2
      go_wp2_with fail
      generalize w2.alloc (.cells #[.int .i64 (Q0 : Int), .int .i64 b, .int .i64 c, .string p] 28) = W3 at *
      generalize w2.heap.size = N at *
      generalize (Q0 : Int) = Q at *
      clear V0 vlt c0 c1 c2 c3 f0
      refine (CA.out _).mono ?_
      rintro e w4 ⟨rfl, b4⟩
      have V4 := hide (V1.out.later b4)
      have B4 := hide (step B3.out b4)
      clear b4 V1 B3 CA
      have hk0 : ¬ 0 < k := by have := hn0.out; omega
      have dk : decide ((0 : Int) < (k : Int)) = false := decide_eq_false (by omega)
      have CF := hide (pfind_any none k cap [] R ⟨Q, b, c, p⟩ w4 (HROW.out.later B4.out) (by omega) HLS.out (HE.out.later (step HB.out B4.out)))
      unfold fval at CF
      simp only at CF
      have HF : Hid (find R.data.toList Q ([] ++ [] ++ [] ++ []) = find R.data.toList Q []) := by show _ = _; rfl
      generalize hFF : find R.data.toList Q [] = F at *
      obtain ⟨vlt, c0, c1, c2, c3, -, -, -, -⟩ := V4.out
      go_wp2_with fail
      refine CF.out.mono ?_
      rintro e w5 ⟨rfl, b5⟩
      have V5 := hide (V4.out.later b5)
      have B5 := hide (step B4.out b5)
      have E5 := hide (HE.out.later (step HB.out B5.out))
      clear b5 V4 vlt c0 c1 c2 c3 CF hFF
      have HT : Hid (SRow w5 none (k - q) (cap - q) []) := hide (nil_row w5 _ _ (by have := hn0.out; omega))
      have HH : Hid (SRow w5 none q cap []) := hide (nil_row w5 _ _ (by have := hn0.out; omega))
      have HA : Hid (SRow w5 none k cap []) := hide (nil_row w5 _ _ hn0.out)
      have i1 : (0 : Int) ≤ (q : Int) := by omega
      have i2 : (q : Int) ≤ (k : Int) := by omega
      have i3 : (q : Int) ≤ (cap : Int) := by have := hck.out; omega
      have KV : ∀ w', Below w5.heap.size w5 w' → VarAt w' N ⟨Q, b, c, p⟩ := fun w' h => V5.out.later h
      have C0 : ∀ w', Below w5.heap.size w5 w' → w'.cell? ⟨N, 0, none⟩ = some (.int .i64 Q) := fun w' h => (KV w' h).c0
      have C1 : ∀ w', Below w5.heap.size w5 w' → w'.cell? ⟨N, 1, none⟩ = some (.int .i64 b) := fun w' h => (KV w' h).c1
      have C2 : ∀ w', Below w5.heap.size w5 w' → w'.cell? ⟨N, 2, none⟩ = some (.int .i64 c) := fun w' h => (KV w' h).c2
      have C3 : ∀ w', Below w5.heap.size w5 w' → w'.cell? ⟨N, 3, none⟩ = some (.string p) := fun w' h => (KV w' h).c3
      clear KV
      have CG : ∀ ad2 cap2 W, SRow W ad2 (k + k) cap2 ([] ++ [] ++ [] ++ []) → Below w5.heap.size w5 W → Calls Tryd.prog 9 #[.slice ad2 (k + k) cap2, .string R, val ⟨Q, b, c, p⟩] W fun e w' => e = .returned (.tuple #[.string (bp F), .bool F.isSome]) ∧ Below W.heap.size W w' := fun ad2 cap2 W hS hb => by
        have := pfind_any ad2 (k + k) cap2 _ R ⟨Q, b, c, p⟩ W hS (by omega) (by
          intro s hs
          exact absurd hs (by simp)) (E5.out.later hb)
        unfold fval at this
        rw [HF.out] at this
        exact this
      go_wp2_with fail
      go_cut [16, 17] (fun p h wz => p = .string (bp F) ∧ h = .bool F.isSome ∧ Hid (Below w5.heap.size w5 wz))
      case first =>
        have hBa : Below w5.heap.size w5 (w5.alloc (.cells #[] 9)).drew := ((Below.refl _ _).alloc (Nat.le_refl _) _).drew
        have hOa : ((w5.alloc (.cells #[] 9)).drew).ownsRow w5.heap.size 9 1 (.slice (some ⟨w5.heap.size, 0, none⟩) 0 0) 0 (([] : List Bs).map encStr) := own_later (fresh_own (w := w5.alloc (.cells #[] 9)) (at_new _ _ _ rfl) (Nat.le_refl _)) ((Below.refl _ _).drew)
        have HOa := hide hOa
        clear hOa
        go_region_held3 (fun w' => Below w5.heap.size w5 w') (first | with_reducible assumption | exact (by repeat (first | with_reducible assumption | with_reducible exact Below.refl _ _ | with_reducible refine Below.setCell ?_ (by first | exact Nat.le_refl _ | (simp; done) | (simp; omega)) _ | with_reducible refine bal ?_ _ | with_reducible refine Below.alloc ?_ (by first | exact Nat.le_refl _ | (simp; done) | (simp; omega)) _ | with_reducible refine Below.drew ?_))) (first
          | (refine step_app rfl _ _ rfl w5.heap.size 0 (.slice (some ⟨w5.heap.size, 0, none⟩) 0 0) [] none (k - q) (cap - q) [] rfl rfl (by with_reducible exact HOa.out) (HT.out.later hBa) (by omega) hBa.size ?_; intro v1 w1 o1 g1 t1; have B1 : Below w5.heap.size w5 w1 := bel_app hBa HOa.out g1 hBa.size)
          | (refine step_app rfl _ _ rfl w5.heap.size (0 + (k - q)) v1 ([] ++ []) none q cap [] rfl rfl o1 (HH.out.later B1) (by omega) B1.size ?_; intro v2 w2 o2 g2 t2; have B2 : Below w5.heap.size w5 w2 := bel_app B1 o1 g2 B1.size)
          | (refine step_app rfl _ _ rfl w5.heap.size (0 + (k - q) + q) v2 ([] ++ [] ++ []) none k cap [] rfl rfl o2 (HA.out.later B2) (by omega) B2.size ?_; intro v3 w3 o3 g3 t3; have B3 : Below w5.heap.size w5 w3 := bel_app B2 o2 g3 B2.size; obtain ⟨ad2, cap2, rfl, hn2, S2⟩ := own_any o3; have S3 := SR_len (m := (k + k)) S2 (by omega))
          | (go_simp; go_at_call 9; have hkk := S3.n; refine (CG ad2 cap2 _ S3 B3).mono ?_; rintro e u3 ⟨rfl, hb3⟩; have hb4 : Below w5.heap.size w5 u3 := step B3 hb3))
        all_goals
          go_wp2_with fail
          go_meet
          case rel => exact ⟨rfl, rfl, hide hb4⟩
      case rest =>
        obtain ⟨rfl, rfl, Hb7⟩ := hcut
        have B7 := hide (step (step HB.out B5.out) Hb7.out)
        clear C0 C1 C2 C3 CG V5 B5 E5 Hb7
        go_wp2_with fail
        go_ret
        exact ⟨by first | rfl | simp, B7.out⟩
    · have HROW := hide (own_row HOWN.out)
      have CA := hide (fun W => make4_any a1 W h1)
      have hrs : (str (mkP a1)).size ≤ 15 := by rw [str_size]; exact (mkP_ok a1).2.2
      have HLS : Hid (∀ s ∈ ls, s.length ≤ 100) := hide (fun s hs => Nat.le_trans (HOK.out s hs) (show 15 ≤ 100 by omega))
      clear HBv HB1
      generalize str (mkP a1) = R at *
      go_wp2_with fail
      refine (within4_nat _ _ _ (by omega) (by omega) (by omega) (by omega)).mono ?_
      rintro e w1 ⟨q, rfl, hq, -, hw⟩
      rw [hw]
      clear hw w1 h3
      have hqk : q ≤ k := by omega
      clear hq
      go_wp2_with fail
      refine (make_any a2 0 _ h2 (by omega)).mono ?_
      rintro e w2 ⟨v, rfl, -, b2⟩
      obtain ⟨a, b, c, p⟩ := v
      have V0 := hide (VarAt.new w2 ⟨a, b, c, p⟩)
      have hN : U.heap.size ≤ w2.heap.size := b2.size
      obtain ⟨vlt, c0, c1, c2, c3, f0, -, -, -⟩ := V0.out
      go_wp2_with fail
      refine (within4_nat _ _ _ (by omega) (by omega) (by omega) (by omega)).mono ?_
      rintro e w3 ⟨Q0, rfl, -, -, hw⟩
      rw [hw]
      clear hw w3
      have V1 := hide (VarAt.new w2 ⟨(Q0 : Int), b, c, p⟩)
      have B3 := hide (Below.alloc b2 b2.size (.cells #[.int .i64 (Q0 : Int), .int .i64 b, .int .i64 c, .string p] 28))
      clear h2 b2
      go_wp2_with fail
      generalize w2.alloc (.cells #[.int .i64 (Q0 : Int), .int .i64 b, .int .i64 c, .string p] 28) = W3 at *
      generalize w2.heap.size = N at *
      generalize (Q0 : Int) = Q at *
      clear V0 vlt c0 c1 c2 c3 f0
      refine (CA.out _).mono ?_
      rintro e w4 ⟨rfl, b4⟩
      have V4 := hide (V1.out.later b4)
      have B4 := hide (step B3.out b4)
      clear b4 V1 B3 CA
      go_upto_region 12 with fail
      go_cut [57] (fun z wz => ∃ D : Bool, z = .bool D ∧ (D = true → 0 < k) ∧ wz = w4)
      case first =>
        by_cases hk0 : 0 < k
        · have dk : decide ((0 : Int) < (k : Int)) = true := decide_eq_true (by omega)
          go_wp2_with fail
          refine (within4_nat _ _ _ (by omega) (by omega) (by omega) (by omega)).mono ?_
          rintro e w5 ⟨z, rfl, -, -, hw⟩
          rw [hw]
          clear hw w5
          generalize hD : decide ((0 : Int) < (z : Int)) = D at *
          go_wp2_with fail
          all_goals
            go_meet
            case rel => exact ⟨_, rfl, fun _ => hk0, by first | rfl | trivial⟩
        · have dk : decide ((0 : Int) < (k : Int)) = false := decide_eq_false (by omega)
          go_wp2_with fail
          go_meet
          case rel => exact ⟨false, rfl, fun h => absurd h (by simp), by first | rfl | trivial⟩
      case rest =>
        obtain ⟨D, rfl, hD, hw⟩ := hcut
        rw [hw]
        clear hw wc
        go_upto_if 57 with fail
        go_cut [13] (fun r wz => ∃ rb : ByteArray, r = .string rb ∧ rb.size ≤ 17 ∧ wz = w4)
        case first =>
          cases D with
          | false =>
            go_wp2_with fail
            go_meet
            case rel => exact ⟨R, rfl, by omega, by first | rfl | trivial⟩
          | true =>
            have hk0 := hD rfl
            go_wp2_with fail
            refine (within4_nat _ _ _ (by omega) (by omega) (by omega) (by omega)).mono ?_
            rintro e w5 ⟨j, rfl, hj, -, hw⟩
            rw [hw]
            clear hw w5
            have hjk : j < k := by omega
            obtain ⟨rb, off, e, hc0⟩ := (HROW.out.later B4.out).at_ hk0
            injection e with e
            injection e with e1 e2 _
            subst e1
            subst e2
            have hc := hc0 j hjk
            rw [Nat.zero_add] at hc
            have hmem : ls.getD j [] ∈ ls := by
              rw [List.getD_eq_getElem?_getD, List.getElem?_eq_getElem (by omega)]; exact List.getElem_mem _
            have hxl : (str (ls.getD j [])).size ≤ 15 := by rw [str_size]; exact HOK.out _ hmem
            clear hc0 hmem
            generalize str (ls.getD j []) = x at *
            have i1 : (0 : Int) ≤ (j : Int) := by omega
            have i2 : (j : Int) < (k : Int) := by omega
            have hz2 : (ByteArray.mk #[47, 120]).size = 2 := rfl
            have n1 : ¬ 9223372036854775807 < x.size + 2 := by omega
            clear hj hjk
            go_wp2_with fail
            go_meet
            case rel => exact ⟨_, rfl, by rw [ByteArray.size_append, hz2]; omega, by first | rfl | trivial⟩
        case rest =>
          obtain ⟨rb, rfl, hrb, hw⟩ := hcut
          rw [hw]
          clear hw wc hrs hD
          have CF := hide (pfind_any (some ⟨g, 0, none⟩) k cap ls rb ⟨Q, b, c, p⟩ w4 (HROW.out.later B4.out) (by omega) HLS.out (HE.out.later (step HB.out B4.out)))
          unfold fval at CF
          simp only at CF
          have HF : Hid (find rb.data.toList Q ([] ++ List.drop q ls ++ List.take q ls ++ ls) = find rb.data.toList Q ls) := by show _ = _; exact find_same _ _ (fun x => by simp only [List.nil_append, List.mem_append]; exact ⟨fun h => h.elim (fun h => h.elim (fun h => List.mem_of_mem_drop h) (fun h => List.mem_of_mem_take h)) (fun h => h), fun h => .inr h⟩)
          generalize hFF : find rb.data.toList Q ls = F at *
          obtain ⟨vlt, c0, c1, c2, c3, -, -, -, -⟩ := V4.out
          go_wp2_with fail
          refine CF.out.mono ?_
          rintro e w5 ⟨rfl, b5⟩
          have V5 := hide (V4.out.later b5)
          have B5 := hide (step B4.out b5)
          have E5 := hide (HE.out.later (step HB.out B5.out))
          clear b5 V4 vlt c0 c1 c2 c3 CF hFF
          have HO5 := hide (own_later HOWN.out B5.out)
          have HT := hide (own_tail HO5.out q (cap - q) hqk hkc)
          have HH := hide (own_pre HO5.out q cap hqk)
          have HA := hide (own_row HO5.out)
          obtain ⟨adx, hax⟩ : ∃ x, (if cap = q then (some ⟨g, 0, none⟩ : Option Addr) else some ⟨g, q, none⟩) = x := ⟨_, rfl⟩
          rw [hax] at HT
          clear HO5
          have i1 : (0 : Int) ≤ (q : Int) := by omega
          have i2 : (q : Int) ≤ (k : Int) := by omega
          have i3 : (q : Int) ≤ (cap : Int) := by omega
          have KV : ∀ w', Below w5.heap.size w5 w' → VarAt w' N ⟨Q, b, c, p⟩ := fun w' h => V5.out.later h
          have C0 : ∀ w', Below w5.heap.size w5 w' → w'.cell? ⟨N, 0, none⟩ = some (.int .i64 Q) := fun w' h => (KV w' h).c0
          have C1 : ∀ w', Below w5.heap.size w5 w' → w'.cell? ⟨N, 1, none⟩ = some (.int .i64 b) := fun w' h => (KV w' h).c1
          have C2 : ∀ w', Below w5.heap.size w5 w' → w'.cell? ⟨N, 2, none⟩ = some (.int .i64 c) := fun w' h => (KV w' h).c2
          have C3 : ∀ w', Below w5.heap.size w5 w' → w'.cell? ⟨N, 3, none⟩ = some (.string p) := fun w' h => (KV w' h).c3
          clear KV
          have CG : ∀ ad2 cap2 W, SRow W ad2 (k + k) cap2 ([] ++ ls.drop q ++ ls.take q ++ ls) → Below w5.heap.size w5 W → Calls Tryd.prog 9 #[.slice ad2 (k + k) cap2, .string rb, val ⟨Q, b, c, p⟩] W fun e w' => e = .returned (.tuple #[.string (bp F), .bool F.isSome]) ∧ Below W.heap.size W w' := fun ad2 cap2 W hS hb => by
            have := pfind_any ad2 (k + k) cap2 _ rb ⟨Q, b, c, p⟩ W hS (by omega) (by
              intro s hs
              refine HLS.out s ?_
              simp only [List.nil_append, List.mem_append] at hs
              rcases hs with (h | h) | h
              · exact List.mem_of_mem_drop h
              · exact List.mem_of_mem_take h
              · exact h) (E5.out.later hb)
            unfold fval at this
            rw [HF.out] at this
            exact this
          go_wp2_with fail
          go_cut [16, 17] (fun p h wz => p = .string (bp F) ∧ h = .bool F.isSome ∧ Hid (Below w5.heap.size w5 wz))
          case first =>
            have hBa : Below w5.heap.size w5 (w5.alloc (.cells #[] 9)).drew := ((Below.refl _ _).alloc (Nat.le_refl _) _).drew
            have hOa : ((w5.alloc (.cells #[] 9)).drew).ownsRow w5.heap.size 9 1 (.slice (some ⟨w5.heap.size, 0, none⟩) 0 0) 0 (([] : List Bs).map encStr) := own_later (fresh_own (w := w5.alloc (.cells #[] 9)) (at_new _ _ _ rfl) (Nat.le_refl _)) ((Below.refl _ _).drew)
            have HOa := hide hOa
            clear hOa
            go_region_held3 (fun w' => Below w5.heap.size w5 w') (first | with_reducible assumption | exact (by repeat (first | with_reducible assumption | with_reducible exact Below.refl _ _ | with_reducible refine Below.setCell ?_ (by first | exact Nat.le_refl _ | (simp; done) | (simp; omega)) _ | with_reducible refine bal ?_ _ | with_reducible refine Below.alloc ?_ (by first | exact Nat.le_refl _ | (simp; done) | (simp; omega)) _ | with_reducible refine Below.drew ?_))) (first
              | (refine step_app rfl _ _ rfl w5.heap.size 0 (.slice (some ⟨w5.heap.size, 0, none⟩) 0 0) [] adx (k - q) (cap - q) (ls.drop q) rfl rfl (by with_reducible exact HOa.out) (HT.out.later hBa) (by omega) hBa.size ?_; intro v1 w1 o1 g1 t1; have B1 : Below w5.heap.size w5 w1 := bel_app hBa HOa.out g1 hBa.size)
              | (refine step_app rfl _ _ rfl w5.heap.size (0 + (k - q)) v1 ([] ++ ls.drop q) (some ⟨g, 0, none⟩) q cap (ls.take q) rfl rfl o1 (HH.out.later B1) (by omega) B1.size ?_; intro v2 w2 o2 g2 t2; have B2 : Below w5.heap.size w5 w2 := bel_app B1 o1 g2 B1.size)
              | (refine step_app rfl _ _ rfl w5.heap.size (0 + (k - q) + q) v2 ([] ++ ls.drop q ++ ls.take q) (some ⟨g, 0, none⟩) k cap ls rfl rfl o2 (HA.out.later B2) (by omega) B2.size ?_; intro v3 w3 o3 g3 t3; have B3 : Below w5.heap.size w5 w3 := bel_app B2 o2 g3 B2.size; obtain ⟨ad2, cap2, rfl, hn2, S2⟩ := own_any o3; have S3 := SR_len (m := (k + k)) S2 (by omega))
              | (go_simp; go_at_call 9; have hkk := S3.n; refine (CG ad2 cap2 _ S3 B3).mono ?_; rintro e u3 ⟨rfl, hb3⟩; have hb4 : Below w5.heap.size w5 u3 := step B3 hb3))
            all_goals
              go_wp2_with fail
              go_meet
              case rel => exact ⟨rfl, rfl, hide hb4⟩
          case rest =>
            obtain ⟨rfl, rfl, Hb7⟩ := hcut
            have B7 := hide (step (step HB.out B5.out) Hb7.out)
            clear C0 C1 C2 C3 CG V5 B5 E5 Hb7
            go_wp2_with fail
            go_ret
            exact ⟨by first | rfl | simp, B7.out⟩

end Go.Proofs.YtcoakjgeadkfoaaDoor.pathOrder
