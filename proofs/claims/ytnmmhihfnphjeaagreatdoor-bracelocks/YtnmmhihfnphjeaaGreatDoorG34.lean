/-
  Contract of the reference's Write.
-/
import Derived.Test.YtnmmhihfnphjeaaGreatDoorG31
import Derived.Test.YtnmmhihfnphjeaaGreatDoorGW18
import Derived.Lib.QuietBelow
import Derived.BigQuiet

namespace Go.Proofs.YtnmmhihfnphjeaaGreatDoor.B
set_option linter.unusedSimpArgs false
set_option linter.unusedVariables false
open Go.RowKit Go.Vr Go.Sort Go.Tx Go.Lib
open Go.Br hiding Bs
open Go.Proofs.YtnmmhihfnphjeaaGreatDoor.W (rquote_any)
attribute [local go_sem] setCellDrewN allocDrewN

theorem mixedB : Tryz.prog.follows .mixedOrders = true := by kernel_rfl

/-- A field's text; a lock's. -/
def fT (f : (List UInt8) × (List UInt8)) : (List UInt8) := quote f.1 ++ 58 :: quote f.2
def lockT (x : Lk) : (List UInt8) := 123 :: (cjoin ((hereL x).map fT) ++ [125])
theorem lockT_is (x : Lk) : textV 6 (lockV x) = lockT x := by
  show 123 :: (cjoin (((hereL x).map leaf5).map fun kx => quote kx.1 ++ 58 :: textV 5 kx.2) ++ [125]) = _
  rw [List.map_map]
  rfl
def hdW : (List UInt8) := [123, 34, 108, 111, 99, 107, 115, 34, 58, 91]
theorem writeM_is (ls : List Lk) : writeM ls = (hdW ++ cjoin (ls.map lockT)) ++ [93, 125, 10] := by
  have e : ((ls.map lockV).map (textV 6)) = ls.map lockT := by rw [List.map_map]; exact List.map_congr_left fun x _ => lockT_is x
  show (123 :: (cjoin [quote kLocks ++ 58 :: (91 :: (cjoin ((ls.map lockV).map (textV 6)) ++ [93]))] ++ [125])) ++ [10] = _
  rw [e]
  show (123 :: ((quote kLocks ++ 58 :: (91 :: (cjoin (ls.map lockT) ++ [93]))) ++ [] ++ [125])) ++ [10] = _
  rw [show quote kLocks = [34, 108, 111, 99, 107, 115, 34] from rfl]
  simp [hdW]
def cT (x : Lk) (k : Nat) : (List UInt8) := cjoin ((hk x k).map fT)
theorem cT_next {x : Lk} {k : Nat} {f : (List UInt8) × (List UInt8)} (h : (fieldsL x)[k]? = some f) : cT x (k + 1) = if f.2 = [] then cT x k else cT x k ++ ((if 0 < (hk x k).length then [44] else []) ++ fT f) := by
  unfold cT
  rw [hk_next h]
  by_cases h0 : f.2 = []
  · rw [if_pos h0, if_pos h0]
  · rw [if_neg h0, if_neg h0, List.map_append]
    by_cases hl : 0 < (hk x k).length
    · rw [if_pos hl]
      exact cjoin_snoc _ _ (fun e => by have := congrArg List.length e; rw [List.length_map, List.length_nil] at this; omega)
    · rw [if_neg hl]
      have : hk x k = [] := List.eq_nil_of_length_eq_zero (by omega)
      rw [this]
      simp [cjoin]
theorem hk_len (x : Lk) (k : Nat) : (hk x k).length ≤ 5 := by
  unfold hk
  refine Nat.le_trans (List.length_filter_le ..) ?_
  rw [List.length_take]
  exact Nat.min_le_right _ _
theorem quote_le (s : (List UInt8)) : (quote s).length ≤ 2 * s.length + 2 := by
  have := escs_len s
  unfold quote
  simp
  omega
/-- The values' row and the names' row. -/
abbrev vrow (x : Lk) : Array Value := #[.string (str x.root), .string (str x.rev), .string (str x.ver), .string (str x.within), .string (str x.source)]
abbrev nrow : Array Value := #[.string ⟨#[112, 97, 116, 104]⟩, .string ⟨#[114, 101, 118, 105, 115, 105, 111, 110]⟩, .string ⟨#[118, 101, 114, 115, 105, 111, 110]⟩, .string ⟨#[119, 105, 116, 104, 105, 110]⟩, .string ⟨#[111, 114, 105, 103, 105, 110]⟩]
theorem rows_at (x : Lk) (hx : okX x) (k : Nat) (h : k < 5) : ∃ key s : (List UInt8), (fieldsL x)[k]? = some (key, s) ∧ (vrow x)[k]? = some (.string (str s)) ∧ nrow[k]? = some (.string (str key)) ∧ key.length ≤ 10 ∧ s.length ≤ 80 := by
  obtain ⟨l0, l1, l2, l3, l4⟩ := hx.len
  match k, h with
  | 0, _ => exact ⟨kPath, x.root, rfl, rfl, rfl, by decide, l0⟩
  | 1, _ => exact ⟨kRev, x.rev, rfl, rfl, rfl, by decide, l2⟩
  | 2, _ => exact ⟨kVer, x.ver, rfl, rfl, rfl, by decide, l1⟩
  | 3, _ => exact ⟨kWithin, x.within, rfl, rfl, rfl, by decide, l3⟩
  | 4, _ => exact ⟨kOrigin, x.source, rfl, rfl, rfl, by decide, l4⟩

set_option maxHeartbeats 16000000 in
set_option maxRecDepth 100000 in
theorem rwrite_any (a : Option Addr) (n c : Nat) (ls : List Lk) (w : World) (hr : ERow ELk w a n ls) (hn : n ≤ 45) (ho : ∀ x ∈ ls, okX x) :
    Calls Tryz.prog 17 #[.slice a n c] w fun e w' => e = .returned (.string (str (writeM ls))) ∧ Below w.heap.size w w' := by
  have HR := hide hr
  have HO := hide ho
  have Hn := hide hn
  have hln := hide hr.n
  have CQ := hide (fun s W (h : s.size ≤ 2000000000000) => rquote_any s W h)
  clear hr ho hn
  go_enter Tryz.func17, Tryz.ntmps17
  go_wp2_with fail
  go_loopw [3, 4] (fun s i wr => ∃ (k : Nat) (o : ByteArray), k ≤ n ∧ i = .int .i64 k ∧ s = .string o ∧ Hid (o = str (hdW ++ pj (ls.map lockT) k)) ∧ o.size ≤ 20 + 1200 * k ∧ Hid (Below w.heap.size w wr)) (fun _ i _ => n - (RowKit.intOf i).toNat)
  case atStart => exact ⟨0, _, Nat.zero_le _, rfl, rfl, rfl, by decide, Below.refl _ _⟩
  case round =>
    obtain ⟨k, o, hkn, rfl, rfl, HS, hos, HB⟩ := hrel
    by_cases hlt : k < n
    · obtain ⟨g, off, rfl⟩ := HR.out.spot (by omega)
      have hkl : k < ls.length := by have := hln.out; omega
      have hx : ls[k]? = some ls[k] := List.getElem?_eq_getElem hkl
      obtain ⟨d0, d1, d2, d3, d4⟩ := ELk_at (HR.out.later HB.out) k ls[k] hx
      have hok := HO.out _ (List.getElem_mem hkl)
      have HPJ : Hid (pj (ls.map lockT) (k + 1) = pj (ls.map lockT) k ++ ((if 0 < k then [44] else []) ++ lockT ls[k])) := by
        show _ = _
        rw [pj_next _ _ (by rw [List.length_map]; exact hkl), List.getElem_map]
      generalize ls[k] = x at *
      have HOK := hide hok
      have i1 : (0 : Int) ≤ (k : Int) := by omega
      have i2 : (k : Int) < (n : Int) := by omega
      have HKW : Hid (wrap64 ((k : Int) + 1) = ((k + 1 : Nat) : Int)) := by show _ = _; have := Hn.out; unfold wrap64; omega
      have hlt' := hide hlt
      have Hos : Hid (o.size ≤ 20 + 1200 * k) := hos
      have Hk45 : Hid (k < 45) := by show _ < _; have := Hn.out; omega
      have hk45 := Hk45.out
      have n1 : ¬ 9223372036854775807 < o.size + 1 := by omega
      have n2 : ¬ 9223372036854775807 < o.size + 1 + 1 := by omega
      have hb1 : Below wr.heap.size wr (((wr.alloc (.cells (lkc x) 49)).alloc (.cells (vrow x) 9)).alloc (.cells nrow 9)) := (by repeat (first | with_reducible assumption | with_reducible exact Below.refl _ _ | with_reducible refine Below.setCell ?_ (by first | exact Nat.le_refl _ | (simp; done) | (simp; omega)) _ | with_reducible refine bal ?_ _ | with_reducible refine Below.alloc ?_ (by first | exact Nat.le_refl _ | (simp; done) | (simp; omega)) _ | with_reducible refine Below.drew ?_))
      have HB1 := hide (HB.out.trans (hb1.mono HB.out.size))
      have hF := (Box.new (wr.alloc (.cells (lkc x) 49)) (vrow x) 9).alloc (.cells nrow 9)
      have hG := Box.new ((wr.alloc (.cells (lkc x) 49)).alloc (.cells (vrow x) 9)) nrow 9
      rw [show (wr.alloc (.cells (lkc x) 49)).heap.size = wr.heap.size + 1 by simp] at hF
      rw [show ((wr.alloc (.cells (lkc x) 49)).alloc (.cells (vrow x) 9)).heap.size = wr.heap.size + 1 + 1 by simp] at hG
      have HF := hide hF
      have HG := hide hG
      clear hx hkl hok hb1 hF hG hlt hkn hos hk45
      by_cases hk0 : 0 < k
      · have K0 : (0 : Int) < (k : Int) := by omega
        have HKP : Hid ((0 < k) = True) := by show _ = _; simp [hk0]
        have HDK : Hid (decide (0 < k) = true) := decide_eq_true hk0
        clear hk0
        go_wp2_with fail
        have HO1 : Hid (((o ++ ByteArray.mk #[44]) ++ ByteArray.mk #[123]) = str ((hdW ++ pj (ls.map lockT) k) ++ ([44] ++ [123]))) := by
          show _ = _
          rw [HS.out]
          refine ba_ext ?_
          simp [ba_app, str_list]
        have HOs : Hid (((o ++ ByteArray.mk #[44]) ++ ByteArray.mk #[123]).size ≤ o.size + 2 ∧ ((o ++ ByteArray.mk #[44]) ++ ByteArray.mk #[123]).size ≤ 60000) := by
          have h1 := Hos.out
          have h2 := Hk45.out
          constructor <;> (simp only [ByteArray.size_append, show (ByteArray.mk #[44]).size = 1 from rfl, show (ByteArray.mk #[123]).size = 1 from rfl]; omega)
        generalize ((o ++ ByteArray.mk #[44]) ++ ByteArray.mk #[123]) = O1 at *
        generalize ((wr.alloc (.cells (lkc x) 49)).alloc (.cells (vrow x) 9)).alloc (.cells nrow 9) = W3 at *
        generalize wr.heap.size = N at *
        try simp only [HDK.out]
        go_loopw [3, 8, 9] (fun s c i2 wr2 => ∃ (q : Nat) (o2 : ByteArray) (cl : Nat), q ≤ 5 ∧ i2 = .int .i64 q ∧ c = .int .i64 cl ∧ Hid (cl = (hk x q).length) ∧ s = .string o2 ∧ Hid (o2 = O1 ++ str (cT x q)) ∧ o2.size ≤ O1.size + 210 * q ∧ Hid (Below W3.heap.size W3 wr2)) (fun _ _ i2 _ => 5 - (RowKit.intOf i2).toNat)
        case atStart => exact ⟨0, O1, 0, Nat.zero_le _, rfl, rfl, rfl, rfl, (show _ = _ by refine ba_ext ?_; simp [ba_app, str_list, cT, hk, cjoin]), Nat.le_refl _, Below.refl _ _⟩
        case round =>
          obtain ⟨q, o2, cl, hq5, rfl, rfl, HCL, rfl, HC2, ho2, HB2⟩ := hrel
          have Ho2 := hide ho2
          by_cases hq : q < 5
          · obtain ⟨key, s, hf, hv, hnm, hkl, hsl⟩ := rows_at x HOK.out q hq
            have fq : wr.cell? ⟨N + 1, q, none⟩ = some (.string (str s)) := by rw [(HF.out.later HB2.out).c]; exact hv
            have gq : wr.cell? ⟨N + 1 + 1, q, none⟩ = some (.string (str key)) := by rw [(HG.out.later HB2.out).c]; exact hnm
            have HKL : Hid (key.length ≤ 10 ∧ s.length ≤ 80) := ⟨hkl, hsl⟩
            have hct := cT_next hf
            have hkn := hk_next hf
            have j1 : (0 : Int) ≤ (q : Int) := by omega
            have j2 : (q : Int) < 5 := by omega
            have HQW : Hid (wrap64 ((q : Int) + 1) = ((q + 1 : Nat) : Int)) := by show _ = _; unfold wrap64; omega
            have hq' := hide hq
            have hl5 : cl ≤ 5 := by have := hk_len x q; have := HCL.out; omega
            clear hf hv hnm hkl hsl hq hq5 ho2
            by_cases hs : s = []
            · have es := isE s hs
              rw [if_pos hs] at hct hkn
              have HCT := hide hct
              have HKN := hide hkn
              clear hct hkn hs hl5
              go_wp2_with fail
              go_roundw
              case rel => exact ⟨q + 1, o2, cl, by have := hq'.out; omega, (by first | exact congrArg (Value.int .i64) HQW.out | rfl), rfl, (show _ = _ by rw [HKN.out]; exact HCL.out), rfl, (show _ = _ by rw [HCT.out]; exact HC2.out), by have := Ho2.out; omega, HB2⟩
              case measure => exact measB (by first | exact HQW.out | rfl) hq'.out
            · have es := isE' s hs
              rw [if_neg hs] at hct hkn
              have HCT := hide hct
              have HLW : Hid (wrap64 ((cl : Int) + 1) = ((cl + 1 : Nat) : Int)) := by show _ = _; unfold wrap64; omega
              have HLN : Hid (cl + 1 = (hk x (q + 1)).length) := by show _ = _; rw [hkn, List.length_append, HCL.out]; rfl
              by_cases hl0 : 0 < cl
              · have l0 : (0 : Int) < (cl : Int) := by omega
                have HL0 : Hid (0 < (hk x q).length) := by show _ < _; rw [← HCL.out]; exact hl0
                clear hct hkn hs hl5 hl0
                have m1 : ¬ 9223372036854775807 < o2.size + 1 := by have := Ho2.out; have := HOs.out; omega
                have qk : (str (quote key)).size ≤ 22 := by rw [str_size]; have := quote_le key; have := HKL.out.1; omega
                have qs : (str (quote s)).size ≤ 162 := by rw [str_size]; have := quote_le s; have := HKL.out.2; omega
                have m2 : ¬ 9223372036854775807 < o2.size + 1 + (str (quote key)).size := by have := Ho2.out; have := HOs.out; omega
                have m3 : ¬ 9223372036854775807 < o2.size + 1 + (str (quote key)).size + 1 := by have := Ho2.out; have := HOs.out; omega
                have m4 : ¬ 9223372036854775807 < o2.size + 1 + (str (quote key)).size + 1 + (str (quote s)).size := by have := Ho2.out; have := HOs.out; omega
                have HE : Hid ((((o2 ++ ByteArray.mk #[44]) ++ str (quote key)) ++ ByteArray.mk #[58]) ++ str (quote s) = O1 ++ str (cT x (q + 1))) := by
                  show _ = _
                  rw [HCT.out, HC2.out, if_pos HL0.out]
                  refine ba_ext ?_
                  simp [ba_app, str_list, fT]
                have HSz : Hid (((((o2 ++ ByteArray.mk #[44]) ++ str (quote key)) ++ ByteArray.mk #[58]) ++ str (quote s)).size ≤ O1.size + 210 * (q + 1)) := by
                  show _ ≤ _
                  simp only [ByteArray.size_append, show (ByteArray.mk #[58]).size = 1 from rfl, show (ByteArray.mk #[44]).size = 1 from rfl]
                  have := Ho2.out
                  omega
                have Qk := hide (fun W => (CQ.out (str key) W (by rw [str_size]; have := HKL.out.1; omega)).mono fun e w' h => (⟨h.1, by rw [h.2]; exact Below.refl _ _⟩ : e = .returned (.string (str (quote (str key).data.toList))) ∧ Below W.heap.size W w'))
                have Qs := hide (fun W => (CQ.out (str s) W (by rw [str_size]; have := HKL.out.2; omega)).mono fun e w' h => (⟨h.1, by rw [h.2]; exact Below.refl _ _⟩ : e = .returned (.string (str (quote (str s).data.toList))) ∧ Below W.heap.size W w'))
                simp only [str_list] at Qk Qs
                clear qk qs
                go_wp2_with fail
                have k0 := cell_regrown fq
                have k1 := cell_regrown gq
                refine wp_region_quiet_below mixedB (by kernel_rfl) ?_
                iterate 5 (go_big_quiet_step (fail))
                go_big_quiet_step (exact Calls.regrown_of (Qk.out _))
                iterate 6 (go_big_quiet_step (fail))
                go_big_quiet_step (exact Calls.regrown_of (Qs.out _))
                iterate 2 (go_big_quiet_step (fail))
                refine wpQuiet_nil ?_
                rintro w6 ⟨p6, rfl⟩
                have B6 := hide (HB2.out.trans ((below_regrown wr p6.d p6.os).mono HB2.out.size))
                go_wp2_with fail
                go_roundw
                case rel => exact ⟨q + 1, _, cl + 1, by have := hq'.out; omega, (by first | exact congrArg (Value.int .i64) HQW.out | rfl), (by first | exact congrArg (Value.int .i64) HLW.out | rfl), HLN, rfl, HE, HSz.out, B6⟩
                case measure => exact measB (by first | exact HQW.out | rfl) hq'.out
              · have l0 : ¬ (0 : Int) < (cl : Int) := by omega
                have HL0 : Hid (¬ 0 < (hk x q).length) := by show ¬ _; rw [← HCL.out]; exact hl0
                clear hct hkn hs hl5 hl0
                have m1 : ¬ 9223372036854775807 < o2.size + 1 := by have := Ho2.out; have := HOs.out; omega
                have qk : (str (quote key)).size ≤ 22 := by rw [str_size]; have := quote_le key; have := HKL.out.1; omega
                have qs : (str (quote s)).size ≤ 162 := by rw [str_size]; have := quote_le s; have := HKL.out.2; omega
                have m2 : ¬ 9223372036854775807 < o2.size + (str (quote key)).size := by have := Ho2.out; have := HOs.out; omega
                have m3 : ¬ 9223372036854775807 < o2.size + (str (quote key)).size + 1 := by have := Ho2.out; have := HOs.out; omega
                have m4 : ¬ 9223372036854775807 < o2.size + (str (quote key)).size + 1 + (str (quote s)).size := by have := Ho2.out; have := HOs.out; omega
                have HE : Hid (((o2 ++ str (quote key)) ++ ByteArray.mk #[58]) ++ str (quote s) = O1 ++ str (cT x (q + 1))) := by
                  show _ = _
                  rw [HCT.out, HC2.out, if_neg HL0.out]
                  refine ba_ext ?_
                  simp [ba_app, str_list, fT]
                have HSz : Hid ((((o2 ++ str (quote key)) ++ ByteArray.mk #[58]) ++ str (quote s)).size ≤ O1.size + 210 * (q + 1)) := by
                  show _ ≤ _
                  simp only [ByteArray.size_append, show (ByteArray.mk #[58]).size = 1 from rfl, show (ByteArray.mk #[44]).size = 1 from rfl]
                  have := Ho2.out
                  omega
                have Qk := hide (fun W => (CQ.out (str key) W (by rw [str_size]; have := HKL.out.1; omega)).mono fun e w' h => (⟨h.1, by rw [h.2]; exact Below.refl _ _⟩ : e = .returned (.string (str (quote (str key).data.toList))) ∧ Below W.heap.size W w'))
                have Qs := hide (fun W => (CQ.out (str s) W (by rw [str_size]; have := HKL.out.2; omega)).mono fun e w' h => (⟨h.1, by rw [h.2]; exact Below.refl _ _⟩ : e = .returned (.string (str (quote (str s).data.toList))) ∧ Below W.heap.size W w'))
                simp only [str_list] at Qk Qs
                clear qk qs
                go_wp2_with fail
                have k0 := cell_regrown fq
                have k1 := cell_regrown gq
                refine wp_region_quiet_below mixedB (by kernel_rfl) ?_
                iterate 5 (go_big_quiet_step (fail))
                go_big_quiet_step (exact Calls.regrown_of (Qk.out _))
                iterate 6 (go_big_quiet_step (fail))
                go_big_quiet_step (exact Calls.regrown_of (Qs.out _))
                iterate 2 (go_big_quiet_step (fail))
                refine wpQuiet_nil ?_
                rintro w6 ⟨p6, rfl⟩
                have B6 := hide (HB2.out.trans ((below_regrown wr p6.d p6.os).mono HB2.out.size))
                go_wp2_with fail
                go_roundw
                case rel => exact ⟨q + 1, _, cl + 1, by have := hq'.out; omega, (by first | exact congrArg (Value.int .i64) HQW.out | rfl), (by first | exact congrArg (Value.int .i64) HLW.out | rfl), HLN, rfl, HE, HSz.out, B6⟩
                case measure => exact measB (by first | exact HQW.out | rfl) hq'.out
          · obtain rfl : q = 5 := by omega
            have m1 : ¬ 9223372036854775807 < o2.size + 1 := by have := Ho2.out; have := HOs.out; omega
            have HSE : Hid (o2 ++ ByteArray.mk #[125] = str (hdW ++ pj (ls.map lockT) (k + 1))) := by
              show _ = _
              rw [HPJ.out, HC2.out, HO1.out]
              refine ba_ext ?_
              simp [ba_app, str_list, lockT, cT, hk_all, HKP.out]
            have HSS : Hid ((o2 ++ ByteArray.mk #[125]).size ≤ 20 + 1200 * (k + 1)) := by
              show _ ≤ _
              rw [ByteArray.size_append, show (ByteArray.mk #[125]).size = 1 from rfl]
              have h1 := Ho2.out
              have h2 := HOs.out.1
              have h3 := Hos.out
              omega
            have HBE := hide (HB1.out.trans (HB2.out.mono HB1.out.size))
            clear ho2 hq hq5
            go_wp2_with fail
            go_roundw
            case rel => exact ⟨k + 1, _, by have := hlt'.out; omega, (by first | exact congrArg (Value.int .i64) HKW.out | rfl), rfl, HSE, HSS.out, HBE⟩
            case measure => exact measB (by first | exact HKW.out | rfl) hlt'.out
      · have K0 : ¬ (0 : Int) < (k : Int) := by omega
        have HKP : Hid ((0 < k) = False) := by show _ = _; simp [hk0]
        have HDK : Hid (decide (0 < k) = false) := decide_eq_false hk0
        clear hk0
        go_wp2_with fail
        have HO1 : Hid ((o ++ ByteArray.mk #[123]) = str ((hdW ++ pj (ls.map lockT) k) ++ ([] ++ [123]))) := by
          show _ = _
          rw [HS.out]
          refine ba_ext ?_
          simp [ba_app, str_list]
        have HOs : Hid ((o ++ ByteArray.mk #[123]).size ≤ o.size + 2 ∧ (o ++ ByteArray.mk #[123]).size ≤ 60000) := by
          have h1 := Hos.out
          have h2 := Hk45.out
          constructor <;> (simp only [ByteArray.size_append, show (ByteArray.mk #[44]).size = 1 from rfl, show (ByteArray.mk #[123]).size = 1 from rfl]; omega)
        generalize (o ++ ByteArray.mk #[123]) = O1 at *
        generalize ((wr.alloc (.cells (lkc x) 49)).alloc (.cells (vrow x) 9)).alloc (.cells nrow 9) = W3 at *
        generalize wr.heap.size = N at *
        try simp only [HDK.out]
        go_loopw [3, 8, 9] (fun s c i2 wr2 => ∃ (q : Nat) (o2 : ByteArray) (cl : Nat), q ≤ 5 ∧ i2 = .int .i64 q ∧ c = .int .i64 cl ∧ Hid (cl = (hk x q).length) ∧ s = .string o2 ∧ Hid (o2 = O1 ++ str (cT x q)) ∧ o2.size ≤ O1.size + 210 * q ∧ Hid (Below W3.heap.size W3 wr2)) (fun _ _ i2 _ => 5 - (RowKit.intOf i2).toNat)
        case atStart => exact ⟨0, O1, 0, Nat.zero_le _, rfl, rfl, rfl, rfl, (show _ = _ by refine ba_ext ?_; simp [ba_app, str_list, cT, hk, cjoin]), Nat.le_refl _, Below.refl _ _⟩
        case round =>
          obtain ⟨q, o2, cl, hq5, rfl, rfl, HCL, rfl, HC2, ho2, HB2⟩ := hrel
          have Ho2 := hide ho2
          by_cases hq : q < 5
          · obtain ⟨key, s, hf, hv, hnm, hkl, hsl⟩ := rows_at x HOK.out q hq
            have fq : wr.cell? ⟨N + 1, q, none⟩ = some (.string (str s)) := by rw [(HF.out.later HB2.out).c]; exact hv
            have gq : wr.cell? ⟨N + 1 + 1, q, none⟩ = some (.string (str key)) := by rw [(HG.out.later HB2.out).c]; exact hnm
            have HKL : Hid (key.length ≤ 10 ∧ s.length ≤ 80) := ⟨hkl, hsl⟩
            have hct := cT_next hf
            have hkn := hk_next hf
            have j1 : (0 : Int) ≤ (q : Int) := by omega
            have j2 : (q : Int) < 5 := by omega
            have HQW : Hid (wrap64 ((q : Int) + 1) = ((q + 1 : Nat) : Int)) := by show _ = _; unfold wrap64; omega
            have hq' := hide hq
            have hl5 : cl ≤ 5 := by have := hk_len x q; have := HCL.out; omega
            clear hf hv hnm hkl hsl hq hq5 ho2
            by_cases hs : s = []
            · have es := isE s hs
              rw [if_pos hs] at hct hkn
              have HCT := hide hct
              have HKN := hide hkn
              clear hct hkn hs hl5
              go_wp2_with fail
              go_roundw
              case rel => exact ⟨q + 1, o2, cl, by have := hq'.out; omega, (by first | exact congrArg (Value.int .i64) HQW.out | rfl), rfl, (show _ = _ by rw [HKN.out]; exact HCL.out), rfl, (show _ = _ by rw [HCT.out]; exact HC2.out), by have := Ho2.out; omega, HB2⟩
              case measure => exact measB (by first | exact HQW.out | rfl) hq'.out
            · have es := isE' s hs
              rw [if_neg hs] at hct hkn
              have HCT := hide hct
              have HLW : Hid (wrap64 ((cl : Int) + 1) = ((cl + 1 : Nat) : Int)) := by show _ = _; unfold wrap64; omega
              have HLN : Hid (cl + 1 = (hk x (q + 1)).length) := by show _ = _; rw [hkn, List.length_append, HCL.out]; rfl
              by_cases hl0 : 0 < cl
              · have l0 : (0 : Int) < (cl : Int) := by omega
                have HL0 : Hid (0 < (hk x q).length) := by show _ < _; rw [← HCL.out]; exact hl0
                clear hct hkn hs hl5 hl0
                have m1 : ¬ 9223372036854775807 < o2.size + 1 := by have := Ho2.out; have := HOs.out; omega
                have qk : (str (quote key)).size ≤ 22 := by rw [str_size]; have := quote_le key; have := HKL.out.1; omega
                have qs : (str (quote s)).size ≤ 162 := by rw [str_size]; have := quote_le s; have := HKL.out.2; omega
                have m2 : ¬ 9223372036854775807 < o2.size + 1 + (str (quote key)).size := by have := Ho2.out; have := HOs.out; omega
                have m3 : ¬ 9223372036854775807 < o2.size + 1 + (str (quote key)).size + 1 := by have := Ho2.out; have := HOs.out; omega
                have m4 : ¬ 9223372036854775807 < o2.size + 1 + (str (quote key)).size + 1 + (str (quote s)).size := by have := Ho2.out; have := HOs.out; omega
                have HE : Hid ((((o2 ++ ByteArray.mk #[44]) ++ str (quote key)) ++ ByteArray.mk #[58]) ++ str (quote s) = O1 ++ str (cT x (q + 1))) := by
                  show _ = _
                  rw [HCT.out, HC2.out, if_pos HL0.out]
                  refine ba_ext ?_
                  simp [ba_app, str_list, fT]
                have HSz : Hid (((((o2 ++ ByteArray.mk #[44]) ++ str (quote key)) ++ ByteArray.mk #[58]) ++ str (quote s)).size ≤ O1.size + 210 * (q + 1)) := by
                  show _ ≤ _
                  simp only [ByteArray.size_append, show (ByteArray.mk #[58]).size = 1 from rfl, show (ByteArray.mk #[44]).size = 1 from rfl]
                  have := Ho2.out
                  omega
                have Qk := hide (fun W => (CQ.out (str key) W (by rw [str_size]; have := HKL.out.1; omega)).mono fun e w' h => (⟨h.1, by rw [h.2]; exact Below.refl _ _⟩ : e = .returned (.string (str (quote (str key).data.toList))) ∧ Below W.heap.size W w'))
                have Qs := hide (fun W => (CQ.out (str s) W (by rw [str_size]; have := HKL.out.2; omega)).mono fun e w' h => (⟨h.1, by rw [h.2]; exact Below.refl _ _⟩ : e = .returned (.string (str (quote (str s).data.toList))) ∧ Below W.heap.size W w'))
                simp only [str_list] at Qk Qs
                clear qk qs
                go_wp2_with fail
                have k0 := cell_regrown fq
                have k1 := cell_regrown gq
                refine wp_region_quiet_below mixedB (by kernel_rfl) ?_
                iterate 5 (go_big_quiet_step (fail))
                go_big_quiet_step (exact Calls.regrown_of (Qk.out _))
                iterate 6 (go_big_quiet_step (fail))
                go_big_quiet_step (exact Calls.regrown_of (Qs.out _))
                iterate 2 (go_big_quiet_step (fail))
                refine wpQuiet_nil ?_
                rintro w6 ⟨p6, rfl⟩
                have B6 := hide (HB2.out.trans ((below_regrown wr p6.d p6.os).mono HB2.out.size))
                go_wp2_with fail
                go_roundw
                case rel => exact ⟨q + 1, _, cl + 1, by have := hq'.out; omega, (by first | exact congrArg (Value.int .i64) HQW.out | rfl), (by first | exact congrArg (Value.int .i64) HLW.out | rfl), HLN, rfl, HE, HSz.out, B6⟩
                case measure => exact measB (by first | exact HQW.out | rfl) hq'.out
              · have l0 : ¬ (0 : Int) < (cl : Int) := by omega
                have HL0 : Hid (¬ 0 < (hk x q).length) := by show ¬ _; rw [← HCL.out]; exact hl0
                clear hct hkn hs hl5 hl0
                have m1 : ¬ 9223372036854775807 < o2.size + 1 := by have := Ho2.out; have := HOs.out; omega
                have qk : (str (quote key)).size ≤ 22 := by rw [str_size]; have := quote_le key; have := HKL.out.1; omega
                have qs : (str (quote s)).size ≤ 162 := by rw [str_size]; have := quote_le s; have := HKL.out.2; omega
                have m2 : ¬ 9223372036854775807 < o2.size + (str (quote key)).size := by have := Ho2.out; have := HOs.out; omega
                have m3 : ¬ 9223372036854775807 < o2.size + (str (quote key)).size + 1 := by have := Ho2.out; have := HOs.out; omega
                have m4 : ¬ 9223372036854775807 < o2.size + (str (quote key)).size + 1 + (str (quote s)).size := by have := Ho2.out; have := HOs.out; omega
                have HE : Hid (((o2 ++ str (quote key)) ++ ByteArray.mk #[58]) ++ str (quote s) = O1 ++ str (cT x (q + 1))) := by
                  show _ = _
                  rw [HCT.out, HC2.out, if_neg HL0.out]
                  refine ba_ext ?_
                  simp [ba_app, str_list, fT]
                have HSz : Hid ((((o2 ++ str (quote key)) ++ ByteArray.mk #[58]) ++ str (quote s)).size ≤ O1.size + 210 * (q + 1)) := by
                  show _ ≤ _
                  simp only [ByteArray.size_append, show (ByteArray.mk #[58]).size = 1 from rfl, show (ByteArray.mk #[44]).size = 1 from rfl]
                  have := Ho2.out
                  omega
                have Qk := hide (fun W => (CQ.out (str key) W (by rw [str_size]; have := HKL.out.1; omega)).mono fun e w' h => (⟨h.1, by rw [h.2]; exact Below.refl _ _⟩ : e = .returned (.string (str (quote (str key).data.toList))) ∧ Below W.heap.size W w'))
                have Qs := hide (fun W => (CQ.out (str s) W (by rw [str_size]; have := HKL.out.2; omega)).mono fun e w' h => (⟨h.1, by rw [h.2]; exact Below.refl _ _⟩ : e = .returned (.string (str (quote (str s).data.toList))) ∧ Below W.heap.size W w'))
                simp only [str_list] at Qk Qs
                clear qk qs
                go_wp2_with fail
                have k0 := cell_regrown fq
                have k1 := cell_regrown gq
                refine wp_region_quiet_below mixedB (by kernel_rfl) ?_
                iterate 5 (go_big_quiet_step (fail))
                go_big_quiet_step (exact Calls.regrown_of (Qk.out _))
                iterate 6 (go_big_quiet_step (fail))
                go_big_quiet_step (exact Calls.regrown_of (Qs.out _))
                iterate 2 (go_big_quiet_step (fail))
                refine wpQuiet_nil ?_
                rintro w6 ⟨p6, rfl⟩
                have B6 := hide (HB2.out.trans ((below_regrown wr p6.d p6.os).mono HB2.out.size))
                go_wp2_with fail
                go_roundw
                case rel => exact ⟨q + 1, _, cl + 1, by have := hq'.out; omega, (by first | exact congrArg (Value.int .i64) HQW.out | rfl), (by first | exact congrArg (Value.int .i64) HLW.out | rfl), HLN, rfl, HE, HSz.out, B6⟩
                case measure => exact measB (by first | exact HQW.out | rfl) hq'.out
          · obtain rfl : q = 5 := by omega
            have m1 : ¬ 9223372036854775807 < o2.size + 1 := by have := Ho2.out; have := HOs.out; omega
            have HSE : Hid (o2 ++ ByteArray.mk #[125] = str (hdW ++ pj (ls.map lockT) (k + 1))) := by
              show _ = _
              rw [HPJ.out, HC2.out, HO1.out]
              refine ba_ext ?_
              simp [ba_app, str_list, lockT, cT, hk_all, HKP.out]
            have HSS : Hid ((o2 ++ ByteArray.mk #[125]).size ≤ 20 + 1200 * (k + 1)) := by
              show _ ≤ _
              rw [ByteArray.size_append, show (ByteArray.mk #[125]).size = 1 from rfl]
              have h1 := Ho2.out
              have h2 := HOs.out.1
              have h3 := Hos.out
              omega
            have HBE := hide (HB1.out.trans (HB2.out.mono HB1.out.size))
            clear ho2 hq hq5
            go_wp2_with fail
            go_roundw
            case rel => exact ⟨k + 1, _, by have := hlt'.out; omega, (by first | exact congrArg (Value.int .i64) HKW.out | rfl), rfl, HSE, HSS.out, HBE⟩
            case measure => exact measB (by first | exact HKW.out | rfl) hlt'.out
    · obtain rfl : k = n := by omega
      have i2 : ¬ ((k : Int) < (k : Int)) := by omega
      have m1 : ¬ 9223372036854775807 < o.size + 3 := by have := Hn.out; omega
      have HE : Hid (o ++ ByteArray.mk #[93, 125, 10] = str (writeM ls)) := by
        show _ = _
        rw [HS.out, writeM_is, show k = (ls.map lockT).length by rw [List.length_map]; exact hln.out.symm, pj_all]
        exact str_app _ _
      clear hlt hkn hos
      go_wp2_with fail
      go_ret
      exact ⟨ret_str HE.out, HB.out⟩

end Go.Proofs.YtnmmhihfnphjeaaGreatDoor.B
