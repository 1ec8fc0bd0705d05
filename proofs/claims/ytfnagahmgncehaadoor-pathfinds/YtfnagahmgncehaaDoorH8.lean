/-
  Contract of the reference's Find.
-/
import Derived.Test.YtfnagahmgncehaaDoorH7
namespace Go.Proofs.YtfnagahmgncehaaDoor
set_option linter.unusedSimpArgs false
set_option linter.unusedVariables false
open Go.RowKit Go.Vr Go.Sort Go.Tx Go.Pa Go.Lib
attribute [local go_sem] setCellDrewN allocDrewN

def lv : Option Bs → Int | none => -1 | some q => (maj q).1.length
theorem better_long {p q : Bs} (h : (maj q).1.length < (maj p).1.length) : better p q = true := by rw [better_else (by omega), decide_eq_true h]
theorem better_less {p q : Bs} (h : (maj p).1.length < (maj q).1.length) : better p q = false := by rw [better_else (by omega), decide_eq_false (by omega)]
theorem better_eq {p q : Bs} (h : (maj p).1.length = (maj q).1.length) : better p q = Op.bytesLess (str p).toList (str q).toList := by rw [better_same h, less_is, toList_data, toList_data, str_list, str_list]

set_option maxHeartbeats 8000000 in
set_option maxRecDepth 100000 in
theorem prfind_any (ad : Option Addr) (n cap : Nat) (ss : List Bs) (r : ByteArray) (v : V) (w : World) (hr : SRow w ad n cap ss) (hn : n ≤ 1000) (hs : ∀ s ∈ ss, s.length ≤ 100) (hrs : r.size ≤ 5000) :
    Calls Tryd.prog 26 #[.slice ad n cap, .string r, val v] w fun e w' => e = .returned (fval (find r.data.toList v.a ss)) ∧ Below w.heap.size w w' := by
  obtain ⟨a, b, c, pv⟩ := v
  have HR := hide hr
  have HS := hide hs
  have hl := hr.n
  have hB0 : Below w.heap.size w (w.alloc (.cells #[.int .i64 a, .int .i64 b, .int .i64 c, .string pv] 33)) := (Below.refl _ _).alloc (Nat.le_refl _) _
  have HV0 := hide (VarAt.new w ⟨a, b, c, pv⟩)
  have HB0 := hide hB0
  clear hr hs hB0
  show Calls Tryd.prog 26 #[.slice ad n cap, .string r, val ⟨a, b, c, pv⟩] w fun e w' => e = .returned (fval (find r.data.toList a ss)) ∧ Below w.heap.size w w'
  go_enter Tryd.func26, Tryd.ntmps26
  go_wp2_with fail
  generalize w.alloc (.cells #[.int .i64 a, .int .i64 b, .int .i64 c, .string pv] 33) = W0 at *
  go_loopw [8, 9, 10] (fun best long i wr => ∃ (k : Nat) (o : Option Bs), k ≤ n ∧ i = .int .i64 k ∧ best = .string (bp o) ∧ long = .int .i64 (lv o) ∧ Hid (o = find r.data.toList a (ss.take k)) ∧ Hid (VarAt wr w.heap.size ⟨a, b, c, pv⟩) ∧ Hid (Below w.heap.size w wr)) (fun _ _ i _ => n - (RowKit.intOf i).toNat)
  case atStart => exact ⟨0, none, Nat.zero_le _, rfl, rfl, rfl, rfl, HV0, HB0⟩
  case round =>
    obtain ⟨k, o, hk, rfl, rfl, rfl, HO, HV, HB⟩ := hrel
    clear HV0 HB0
    by_cases hlt : k < n
    · obtain ⟨rb, off, e, hcell⟩ := HR.out.at_ (by omega)
      subst e
      have hc0 := hide (hcell k hlt)
      have hc := cellLater HB.out hc0.out
      have hmem : ss.getD k [] ∈ ss := by
        rw [List.getD_eq_getElem?_getD, List.getElem?_eq_getElem (by omega)]; exact List.getElem_mem _
      have hxl := HS.out _ hmem
      have HT := hide (take_getD ss k (by omega))
      clear hcell hmem
      generalize ss.getD k [] = x at *
      have hi1 : (0 : Int) ≤ (k : Int) := by omega
      have hi2 : (k : Int) < (n : Int) := by omega
      have dk : decide ((k : Int) < (n : Int)) = true := decide_eq_true hi2
      have hxs : (str x).size ≤ 5000 := by rw [str_size]; omega
      have CM := hide (fun W => prmajor_any (str x) W hxs)
      rw [str_list] at CM
      unfold mval at CM
      have CF := hide (fun W => prfits_any (str x) ⟨a, b, c, pv⟩ W hxs)
      rw [str_list] at CF
      have hml : (str (maj x).1).size ≤ 5000 := by have := maj_len x; rw [str_size]; omega
      have CC := hide (fun W => prwithin_any r (str (maj x).1) W hrs hml)
      rw [str_list] at CC
      have hpn := hide (fun (h : may r.data.toList a x = false) => (pick_not (o := o) h).symm.trans (find_next HO.out HT.out))
      have hpy := hide (find_next HO.out HT.out)
      have hms : (str (maj x).1).size = (maj x).1.length := str_size _
      have hln := hide hms
      clear hxs hml hxl hms
      go_wp2_with fail
      refine (CM.out _).mono ?_
      rintro e w2 ⟨rfl, b2⟩
      have HV2 := hide (HV.out.later b2)
      have HB2 := hide (step HB.out b2)
      have K4 : ∀ w', Below w2.heap.size w2 w' → w'.cell? ⟨rb, off + k, none⟩ = some (.string (str x)) := fun w' h => cellLater (step HB2.out h) hc0.out
      have K0 : ∀ w', Below w2.heap.size w2 w' → w'.cell? ⟨w.heap.size, 0, none⟩ = some (.int .i64 a) := fun w' h => cellLater h HV2.out.c0
      have K1 : ∀ w', Below w2.heap.size w2 w' → w'.cell? ⟨w.heap.size, 1, none⟩ = some (.int .i64 b) := fun w' h => cellLater h HV2.out.c1
      have K2 : ∀ w', Below w2.heap.size w2 w' → w'.cell? ⟨w.heap.size, 2, none⟩ = some (.int .i64 c) := fun w' h => cellLater h HV2.out.c2
      have K3 : ∀ w', Below w2.heap.size w2 w' → w'.cell? ⟨w.heap.size, 3, none⟩ = some (.string pv) := fun w' h => cellLater h HV2.out.c3
      have hB0 := Below.refl w2.heap.size w2
      clear hc b2 HV HB CM
      generalize hmx : str (maj x).1 = mx at *
      have HMX := hide hmx
      clear hmx
      generalize (maj x).2 = mn at *
      cases hi : inside r.data.toList (maj x).1 with
      | false =>
        have HN : Hid (o = find r.data.toList a (ss.take (k + 1))) := hpn.out (may_no2 hi)
        rw [hi] at CC
        clear hi hpn hpy CF
        go_wp2_with fail
        go_quiet (exact Calls.quiet_of_same (CC.out _))
        go_wp2_with fail
        go_roundw
        case rel => exact ⟨k + 1, o, by omega, by go_num, rfl, rfl, HN, hide (HV2.out.later (belDrewN _ _)), hide (step HB2.out (belDrewN _ _))⟩
        case measure => simp [RowKit.intOf]; omega
      | true =>
        rw [hi] at CC
        cases hf : fits x a with
        | false =>
          have HN : Hid (o = find r.data.toList a (ss.take (k + 1))) := hpn.out (may_no1 hf)
          rw [hf] at CF
          clear hi hf hpn hpy
          go_wp2_with fail
          go_region_held3 (fun w' => Below w2.heap.size w2 w') (first | assumption | exact (by repeat (first | with_reducible assumption | with_reducible exact Below.refl _ _ | with_reducible refine Below.setCell ?_ (by first | exact Nat.le_refl _ | (simp; done) | (simp; omega)) _ | with_reducible refine bal ?_ _ | with_reducible refine Below.alloc ?_ (by first | exact Nat.le_refl _ | (simp; done) | (simp; omega)) _ | with_reducible refine Below.drew ?_))) (first
            | (go_at_call 24; refine (CC.out _).mono ?_; rintro e w5 ⟨rfl, rfl⟩)
            | (go_at_call 22; refine (CF.out _).mono ?_; rintro e w5 ⟨rfl, b5⟩; have b5 : Below w2.heap.size w2 w5 := (by refine Below.trans ?_ (Below.mono b5 ?_); rotate_left; exact Below.size (by with_reducible assumption); with_reducible assumption)))
          rename_i hHeld
          go_wp2_with fail
          go_roundw
          case rel => exact ⟨k + 1, o, by omega, by go_num, rfl, rfl, HN, hide (HV2.out.later hHeld), hide (step HB2.out hHeld)⟩
          case measure => simp [RowKit.intOf]; omega
        | true =>
          have hmy := hide (may_yes hf hi)
          rw [hf] at CF
          clear hi hf hpn
          go_wp2_with fail
          go_region_held3 (fun w' => Below w2.heap.size w2 w') (first | assumption | exact (by repeat (first | with_reducible assumption | with_reducible exact Below.refl _ _ | with_reducible refine Below.setCell ?_ (by first | exact Nat.le_refl _ | (simp; done) | (simp; omega)) _ | with_reducible refine bal ?_ _ | with_reducible refine Below.alloc ?_ (by first | exact Nat.le_refl _ | (simp; done) | (simp; omega)) _ | with_reducible refine Below.drew ?_))) (first
            | (go_at_call 24; refine (CC.out _).mono ?_; rintro e w5 ⟨rfl, rfl⟩)
            | (go_at_call 22; refine (CF.out _).mono ?_; rintro e w5 ⟨rfl, b5⟩; have b5 : Below w2.heap.size w2 w5 := (by refine Below.trans ?_ (Below.mono b5 ?_); rotate_left; exact Below.size (by with_reducible assumption); with_reducible assumption)))
          rename_i w6 hHeld
          have k4 := K4 _ hHeld
          have HV6 := hide (HV2.out.later hHeld)
          have HB6 := hide (step HB2.out hHeld)
          have hbp : bp (some x) = str x := rfl
          have hlv : lv (some x) = (mx.size : Int) := by show (((maj x).1.length : Nat) : Int) = _; rw [hln.out]
          clear K0 K1 K2 K3 K4 hHeld HV2 HB2 CC CF
          cases o with
          | none =>
            have HN : Hid (some x = find r.data.toList a (ss.take (k + 1))) := by show _ = _; rw [← hpy.out, pick_one hmy.out]
            have d1 : decide ((-1 : Int) < (mx.size : Int)) = true := decide_eq_true (by omega)
            have d2 : (lv none) = -1 := rfl
            clear hpy hmy
            go_wp2_with fail
            go_roundw
            case rel => exact ⟨k + 1, some x, by omega, by go_num, rfl, by rw [hlv], HN, HV6, HB6⟩
            case measure => simp [RowKit.intOf]; omega
          | some q =>
            have hq0 := hln.out
            have HQ : Hid (lv (some q) = ((maj q).1.length : Int)) := rfl
            have hbq : bp (some q) = str q := rfl
            generalize hL : lv (some q) = L at *
            have HS9 := hide (better_eq (p := x) (q := q))
            generalize str q = qs at *
            by_cases g1 : L < (mx.size : Int)
            · have HN : Hid (some x = find r.data.toList a (ss.take (k + 1))) := by show _ = _; rw [← hpy.out, pick_two hmy.out (better_long (by have := HQ.out; omega))]
              have d1 : decide (L < (mx.size : Int)) = true := decide_eq_true g1
              clear hpy hmy hq0 hL g1
              go_wp2_with fail
              go_roundw
              case rel => exact ⟨k + 1, some x, by omega, by go_num, rfl, by rw [hlv], HN, HV6, HB6⟩
              case measure => simp [RowKit.intOf]; omega
            · have d1 : decide (L < (mx.size : Int)) = false := decide_eq_false g1
              by_cases g2 : (mx.size : Int) = L
              · have e1 : ((mx.size : Int) == L) = true := beq_iff_eq.2 g2
                have HE := hide (HS9.out (by have := HQ.out; omega))
                cases hb : Op.bytesLess (str x).toList qs.toList with
                | true =>
                  have HN : Hid (some x = find r.data.toList a (ss.take (k + 1))) := by show _ = _; rw [← hpy.out, pick_two hmy.out (by rw [HE.out, hb])]
                  clear hpy hmy hq0 hL g1 g2
                  go_wp2_with fail
                  go_roundw
                  case rel => exact ⟨k + 1, some x, by omega, by go_num, rfl, by rw [hlv], HN, HV6, HB6⟩
                  case measure => simp [RowKit.intOf]; omega
                | false =>
                  have HN : Hid (some q = find r.data.toList a (ss.take (k + 1))) := by show _ = _; rw [← hpy.out, pick_old hmy.out (by rw [HE.out, hb])]
                  have HL := hide hL
                  clear hpy hmy hq0 hL g1 g2
                  go_wp2_with fail
                  go_roundw
                  case rel => exact ⟨k + 1, some q, by omega, by go_num, by rw [hbq], by rw [HL.out], HN, HV6, HB6⟩
                  case measure => simp [RowKit.intOf]; omega
              · have e1 : ((mx.size : Int) == L) = false := by simpa using g2
                have HN : Hid (some q = find r.data.toList a (ss.take (k + 1))) := by show _ = _; rw [← hpy.out, pick_old hmy.out (better_less (by have := HQ.out; omega))]
                have HL := hide hL
                clear hpy hmy hq0 hL g1 g2
                go_wp2_with fail
                go_roundw
                case rel => exact ⟨k + 1, some q, by omega, by go_num, by rw [hbq], by rw [HL.out], HN, HV6, HB6⟩
                case measure => simp [RowKit.intOf]; omega
    · have hd : decide ((k : Int) < (n : Int)) = false := decide_eq_false (by omega)
      have HF : Hid (o = find r.data.toList a ss) := by
        show _ = _
        have := HO.out
        rw [List.take_of_length_le (by omega)] at this
        exact this
      cases o with
      | none =>
        go_wp2_with fail
        go_ret2
        exact ⟨by rw [← HF.out]; rfl, HB.out⟩
      | some q =>
        have h0 : decide (0 ≤ lv (some q)) = true := decide_eq_true (by show (0 : Int) ≤ ((maj q).1.length : Int); omega)
        go_wp2_with fail
        go_ret2
        exact ⟨by rw [← HF.out]; rfl, HB.out⟩

end Go.Proofs.YtfnagahmgncehaaDoor
