/-
  The walk of BraceDeep.
  BraceDeep: eight may be in one another, one more may not, at its bracket: for every input the law answers true, and its arguments read afterwards as before. Condition: the library's variables as the program's text lays them (the card's tie).
-/
import Derived.Test.YtnmmhihfnphjeaaDoorG24
import Derived.Lib.QuietBelow
import Derived.BigQuiet
import Derived.Test.YtnmmhihfnphjeaaDoorTie
import Derived.Test.YtnmmhihfnphjeaaDoorCards
import Derived.Test.YtnmmhihfnphjeaaDoorG03
import Derived.ProofKit
import Derived.OpenShut
import Derived.ShutString
import Derived.LaidMore
import Derived.Lay
import Derived.SevenTiedAt
import Derived.Stop.Joined

namespace Go.Proofs.YtnmmhihfnphjeaaDoor.braceDeep
set_option linter.unusedSimpArgs false
set_option linter.unusedVariables false
open Go.RowKit Go.Vr Go.Sort Go.Tx Go.Lib
open Go.Br hiding Bs
open Go.Proofs.YtnmmhihfnphjeaaDoor.B
open Go.Proofs.YtnmmhihfnphjeaaDoor.W (plc rplace_any)
attribute [local go_sem] setCellDrewN allocDrewN

theorem mixed : Tryd.prog.follows .mixedOrders = true := by kernel_rfl

/-- Is the i-th one a list? -/
def isl (b : Bool) (i : Nat) : Bool := b || (i % 2 == 0)
def sD (b : Bool) : Nat → Bs
  | 0 => []
  | i + 1 => sD b i ++ (if isl b i then [91] else [123, 34, 97, 34, 58])
def tD (b : Bool) : Nat → Bs
  | 0 => []
  | i + 1 => (if isl b i then [93] else [125]) ++ tD b i
def xD (b : Bool) (k : Nat) : Bs := sD b k ++ [49] ++ tD b k
/-- The value, within m others from the i-th on. -/
def vD : (d : Nat) → Bool → (m i : Nat) → Val d
  | 0, _, _, _ => .inr (.inl 1)
  | _ + 1, _, 0, _ => Sum.inl (.inr (.inl 1))
  | d + 1, b, m + 1, i => if isl b i then Sum.inr (Sum.inl [vD d b m (i + 1)]) else Sum.inr (Sum.inr [([97], vD d b m (i + 1))])
theorem vD_ok : ∀ (d : Nat) (b : Bool) (m i : Nat), okV d (vD d b m i)
  | 0, _, _, _ => by show leafOk _; exact ⟨by decide, by decide⟩
  | _ + 1, _, 0, _ => by show leafOk _; exact ⟨by decide, by decide⟩
  | d + 1, b, m + 1, i => by
    have ih := vD_ok d b m (i + 1)
    unfold vD
    cases isl b i with
    | true =>
      intro x hx
      rw [List.mem_singleton.1 hx]
      exact ih
    | false =>
      refine ⟨by simp, fun kx hx => ?_⟩
      rw [List.mem_singleton.1 hx]
      exact ⟨(by show plain [97] = true; decide), ih⟩
theorem vD_text : ∀ b k, 1 ≤ k → k ≤ 8 → textV 8 (vD 8 b k 0) = xD b k := by
  intro b k h1 h2
  obtain rfl | rfl | rfl | rfl | rfl | rfl | rfl | rfl : k = 1 ∨ k = 2 ∨ k = 3 ∨ k = 4 ∨ k = 5 ∨ k = 6 ∨ k = 7 ∨ k = 8 := by omega
  all_goals cases b <;> kernel_rfl
theorem deep_bad : ∀ b k, 9 ≤ k → k ≤ 12 → parseM (xD b k) = .inr (3, (sD b 8).length) := by
  intro b k h1 h2
  obtain rfl | rfl | rfl | rfl : k = 9 ∨ k = 10 ∨ k = 11 ∨ k = 12 := by omega
  all_goals cases b <;> kernel_rfl
theorem len_ok : ∀ b k, k ≤ 12 → (sD b k).length ≤ 60 ∧ (tD b k).length ≤ 60 := by
  have h : ∀ b, ((List.range 13).all fun k => decide ((sD b k).length ≤ 60) && decide ((tD b k).length ≤ 60)) = true := by decide +kernel
  intro b k hk
  have := List.all_eq_true.1 (h b) k (List.mem_range.2 (by omega))
  simpa using this

theorem x_len (b : Bool) (k : Nat) (h : k ≤ 12) : (xD b k).length ≤ 121 := by
  have := len_ok b k h
  unfold xD
  simp only [List.length_append, List.length_cons, List.length_nil]
  omega
theorem deep_ok (b : Bool) (k : Nat) (h1 : 1 ≤ k) (h2 : k ≤ 8) : parseM (xD b k) = .inl (vD 8 b k 0) := by
  have := parse_text (vD 8 b k 0) (vD_ok 8 b k 0) (by rw [vD_text b k h1 h2]; have := x_len b k (by omega); omega)
  rw [vD_text b k h1 h2] at this
  exact this

set_option maxHeartbeats 8000000 in
set_option maxRecDepth 100000 in
theorem walk (a0 : Int) (a1 : Bool) (w : World) (he : Env w) (h0 : -9223372036854775808 ≤ a0 ∧ a0 ≤ 9223372036854775807) :
    Calls Tryd.prog 4 #[.int .i64 a0, .bool a1] w fun e w' => e = .returned (.bool true) ∧ Below w.heap.size w w' := by
  have CK := hide (known_any w he)
  have HE := hide he
  clear he
  go_enter Tryd.func4, Tryd.ntmps4
  go_wp2_with fail
  refine CK.out.mono ?_
  rintro e w1 ⟨rfl, b1⟩
  go_wp2_with fail
  refine (within5_nat _ _ _ (by omega) (by omega) (by omega) (by omega)).mono ?_
  rintro e w2 ⟨j, rfl, hj, -, rfl⟩
  have HJ : Hid (j < 12) := by show _ < _; omega
  have HB1 := hide b1
  obtain ⟨K, hK⟩ : ∃ K : Nat, K = 1 + j := ⟨_, rfl⟩
  have w35 : wrap64 (1 + (j : Int)) = (K : Int) := by unfold wrap64; omega
  have HK := hide hK
  clear hj b1 CK h0 hK
  go_wp2_with fail
  simp only [w35]
  go_loopw [6, 7, 8, 9] (fun s t a i wr => ∃ k : Nat, k ≤ K ∧ i = .int .i64 k ∧ s = .string (str (sD a1 k)) ∧ t = .string (str (tD a1 k)) ∧ a = .int .i64 (if 8 < k then (sD a1 8).length else 0 : Nat) ∧ wr = w2) (fun _ _ _ i _ => K - (RowKit.intOf i).toNat)
  case atStart => exact ⟨0, Nat.zero_le _, rfl, rfl, rfl, rfl, rfl⟩
  case round =>
    obtain ⟨k, hkK, rfl, rfl, rfl, rfl, rfl⟩ := hrel
    by_cases hlt : k < K
    · have hk12 : k < 12 := by have := HK.out; have := HJ.out; omega
      have i1 : (k : Int) < (K : Int) := by omega
      have HKW : Hid (wrap64 ((k : Int) + 1) = ((k + 1 : Nat) : Int)) := by show _ = _; unfold wrap64; omega
      have hln := len_ok a1 k (by omega)
      have n1 : ¬ 9223372036854775807 < (str (sD a1 k)).size + 1 := by rw [str_size]; omega
      have n2 : ¬ 9223372036854775807 < 1 + (str (tD a1 k)).size := by rw [str_size]; omega
      have n3 : ¬ 9223372036854775807 < (str (sD a1 k)).size + 5 := by rw [str_size]; omega
      have H12 := hide hk12
      have hlt' := hide hlt
      have eL : isl a1 k = true → ByteArray.mk #[] = ByteArray.mk #[] ∧ str (sD a1 k) ++ ByteArray.mk #[91] = str (sD a1 (k + 1)) ∧ ByteArray.mk #[93] ++ str (tD a1 k) = str (tD a1 (k + 1)) := fun h => ⟨rfl, by
        show str (sD a1 k) ++ str [91] = str (sD a1 k ++ (if isl a1 k then [91] else _))
        rw [h]; exact str_app _ _, by
        show str [93] ++ str (tD a1 k) = str ((if isl a1 k then [93] else _) ++ tD a1 k)
        rw [h]; exact str_app _ _⟩
      have eM : isl a1 k = false → str (sD a1 k) ++ ByteArray.mk #[123, 34, 97, 34, 58] = str (sD a1 (k + 1)) ∧ ByteArray.mk #[125] ++ str (tD a1 k) = str (tD a1 (k + 1)) := fun h => ⟨by
        show str (sD a1 k) ++ str [123, 34, 97, 34, 58] = str (sD a1 k ++ (if isl a1 k then _ else _))
        rw [h]; exact str_app _ _, by
        show str [125] ++ str (tD a1 k) = str ((if isl a1 k then _ else [125]) ++ tD a1 k)
        rw [h]; exact str_app _ _⟩
      have hat : k ≠ 8 → (if 8 < k then (sD a1 8).length else 0 : Nat) = (if 8 < k + 1 then (sD a1 8).length else 0 : Nat) := fun h => by
        by_cases h8 : 8 < k
        · rw [if_pos h8, if_pos (by omega)]
        · rw [if_neg h8, if_neg (by omega)]
      have hz : ((str (sD a1 k)).size : Int) = ((sD a1 k).length : Nat) := by rw [str_size]
      have HZ := hide hz
      have HAT := hide hat
      have EL := hide eL
      have EM := hide eM
      have hm2 : Int.tmod (k : Int) 2 = ((k % 2 : Nat) : Int) := by rw [Int.tmod_eq_emod_of_nonneg (by omega)]; omega
      clear hln hlt hkK hk12 eL eM hat hz
      by_cases h8 : k = 8
      · subst h8
        have hI : isl a1 8 = true := by cases a1 <;> rfl
        obtain ⟨-, e1, e2⟩ := EL.out hI
        have hm : Int.tmod ((8 : Nat) : Int) 2 = 0 := by decide
        have h88 : ((8 : Nat) : Int) = 8 := rfl
        clear hm2
        cases a1 with
        | true =>
          go_wp2_with fail
          go_roundw
          case rel => exact ⟨9, by have := hlt'.out; omega, rfl, rfl, rfl, by rw [if_pos (by decide)]; exact congrArg (Value.int .i64) HZ.out, by first | trivial | rfl⟩
          case measure => exact measB (k := 8) rfl hlt'.out
        | false =>
          go_wp2_with fail
          go_roundw
          case rel => exact ⟨9, by have := hlt'.out; omega, rfl, rfl, rfl, by rw [if_pos (by decide)]; exact congrArg (Value.int .i64) HZ.out, by first | trivial | rfl⟩
          case measure => exact measB (k := 8) rfl hlt'.out
      · have k8 : ¬ ((k : Int) = 8) := by omega
        have HA := hide (HAT.out h8)
        cases a1 with
        | true =>
          obtain ⟨-, e1, e2⟩ := EL.out rfl
          clear hm2 h8
          go_wp2_with fail
          go_roundw
          case rel => exact ⟨k + 1, by have := hlt'.out; omega, (by first | exact congrArg (Value.int .i64) HKW.out | rfl), rfl, rfl, congrArg (fun n : Nat => Value.int .i64 n) HA.out, by first | trivial | rfl⟩
          case measure => exact measB (by first | exact HKW.out | rfl) hlt'.out
        | false =>
          by_cases hev : k % 2 = 0
          · obtain ⟨-, e1, e2⟩ := EL.out (by unfold isl; simp [hev])
            rw [hev] at hm2
            have hm : Int.tmod (k : Int) 2 = 0 := hm2
            clear hm2 h8 hev
            go_wp2_with fail
            go_roundw
            case rel => exact ⟨k + 1, by have := hlt'.out; omega, (by first | exact congrArg (Value.int .i64) HKW.out | rfl), rfl, rfl, congrArg (fun n : Nat => Value.int .i64 n) HA.out, by first | trivial | rfl⟩
            case measure => exact measB (by first | exact HKW.out | rfl) hlt'.out
          · obtain ⟨e1, e2⟩ := EM.out (by unfold isl; simp [hev])
            have hm : Int.tmod (k : Int) 2 = 1 := by rw [hm2]; omega
            clear hm2 h8 hev
            go_wp2_with fail
            go_roundw
            case rel => exact ⟨k + 1, by have := hlt'.out; omega, (by first | exact congrArg (Value.int .i64) HKW.out | rfl), rfl, rfl, congrArg (fun n : Nat => Value.int .i64 n) HA.out, by first | trivial | rfl⟩
            case measure => exact measB (by first | exact HKW.out | rfl) hlt'.out
    · obtain rfl : k = K := by omega
      have hk12 : k ≤ 12 := by have := HK.out; have := HJ.out; omega
      have hk1 : 1 ≤ k := by have := HK.out; omega
      have hln := len_ok a1 k hk12
      have hxl := x_len a1 k hk12
      have n1 : ¬ 9223372036854775807 < (str (sD a1 k)).size + 1 := by rw [str_size]; omega
      have n2 : ¬ 9223372036854775807 < (str (sD a1 k) ++ ByteArray.mk #[49]).size + (str (tD a1 k)).size := by rw [ByteArray.size_append, str_size, str_size]; have : (ByteArray.mk #[49]).size = 1 := rfl; omega
      have ex : (str (sD a1 k) ++ ByteArray.mk #[49]) ++ str (tD a1 k) = str (xD a1 k) := by
        show (str (sD a1 k) ++ str [49]) ++ str (tD a1 k) = _
        rw [str_app, str_app]; rfl
      have i2 : ¬ ((k : Int) < (k : Int)) := by omega
      have CP := hide (fun W => parse_any (str (xD a1 k)) W (by rw [str_size]; omega))
      simp only [str_list] at CP
      have HX := hide hxl
      have H1 := hide hk1
      have H12 := hide hk12
      have EX := hide ex
      have n3 : ¬ 9223372036854775807 < (str (sD a1 k)).size + 1 + (str (tD a1 k)).size := by rw [str_size, str_size]; omega
      clear hln hxl hk12 hk1 hlt hkK w35
      by_cases h8 : 8 < k
      · have hpb := deep_bad a1 k (by omega) H12.out
        rw [hpb] at CP
        simp only [if_pos h8]
        have k8 : (k : Int) > 8 := by omega
        have CPl := hide (fun W => rplace_any (str (xD a1 k)) ((sD a1 8).length : Nat) W (by rw [str_size]; have := HX.out; omega))
        simp only [str_list, Int.toNat_natCast] at CPl
        obtain ⟨i, j', hij⟩ : ∃ i j : Int, plc ((xD a1 k).take (sD a1 8).length) = .agg #[.int .i64 i, .int .i64 j] := ⟨_, _, rfl⟩
        rw [hij] at CPl
        have HI := hide hij
        clear h8 hpb hij
        go_wp2_with fail
        refine (CP.out _).mono ?_
        rintro e w3 ⟨b3, -, hm⟩
        obtain rfl : e = .returned (.tuple #[SV.zero.val, .agg #[.int .i64 i, .int .i64 j'], .int .i64 3]) := by rw [← HI.out]; exact hm
        have HB5 := hide (HB1.out.trans ((b3.trans (show Below _ w3 ((w3.alloc (.cells SV.zero.cells 39)).alloc (.cells #[.int .i64 i, .int .i64 j'] 29)) from ((Below.refl _ _).alloc b3.size _).alloc (by simp; have := b3.size; omega) _)).mono HB1.out.size))
        have v5 := ((Box.new w3 SV.zero.cells 39).alloc (.cells #[.int .i64 i, .int .i64 j'] 29)).c 0
        have p5 := (Box.new (w3.alloc (.cells SV.zero.cells 39)) #[.int .i64 i, .int .i64 j'] 29).c
        rw [show (w3.alloc (.cells SV.zero.cells 39)).heap.size = w3.heap.size + 1 by simp] at p5
        clear b3 hm CP
        go_wp2_with fail
        generalize (w3.alloc (.cells SV.zero.cells 39)).alloc (.cells #[.int .i64 i, .int .i64 j'] 29) = W5 at *
        have k0 := cell_regrown (p5 0)
        have k1 := cell_regrown (p5 1)
        have k2 := cell_regrown v5
        refine wp_region_quiet_below mixed (by kernel_rfl) ?_
        iterate 6 (go_big_quiet_step (fail))
        go_big_quiet_step (exact Calls.regrown_of (CPl.out _))
        iterate 8 (go_big_quiet_step (fail))
        refine wpQuiet_nil ?_
        rintro w6 ⟨p6, rfl⟩
        have B6 := hide (HB5.out.trans ((below_regrown W5 p6.d p6.os).mono HB5.out.size))
        go_wp2_with fail
        go_ret
        exact ⟨rfl, B6.out⟩
      · have hpb := deep_ok a1 k H1.out (by omega)
        have htx := vD_text a1 k H1.out (by omega)
        rw [hpb] at CP
        simp only [if_neg h8]
        have k8 : ¬ (k : Int) > 8 := by omega
        have HT := hide htx
        have hok := vD_ok 8 a1 k 0
        generalize vD 8 a1 k 0 = x at *
        have HOK := hide hok
        clear h8 hpb htx hok
        go_wp2_with fail
        refine (CP.out _).mono ?_
        rintro e w3 ⟨b3, ⟨vk, vn, vs, ka, kn, kc, la, n, lc⟩, rfl, hv⟩
        have hb5 : Below w3.heap.size w3 ((w3.alloc (.cells #[.int .i64 vk, .int .i64 vn, .string vs, .slice ka kn kc, .slice la n lc] 39)).alloc (.cells #[.int .i64 0, .int .i64 0] 29)) := (by repeat (first | with_reducible assumption | with_reducible exact Below.refl _ _ | with_reducible refine Below.setCell ?_ (by first | exact Nat.le_refl _ | (simp; done) | (simp; omega)) _ | with_reducible refine bal ?_ _ | with_reducible refine Below.alloc ?_ (by first | exact Nat.le_refl _ | (simp; done) | (simp; omega)) _ | with_reducible refine Below.drew ?_))
        have HB5 := hide (HB1.out.trans ((b3.trans (hb5.mono b3.size)).mono HB1.out.size))
        have v5 := ((Box.new w3 #[.int .i64 vk, .int .i64 vn, .string vs, .slice ka kn kc, .slice la n lc] 39).alloc (.cells #[.int .i64 0, .int .i64 0] 29)).c
        have CT := hide (text_any 8 x ⟨vk, vn, vs, ka, kn, kc, la, n, lc⟩ _ _ (HE.out.later HB5.out) (hv.below hb5) HOK.out (by rw [HT.out]; have := HX.out; omega))
        rw [HT.out] at CT
        clear b3 hv hb5 CP
        go_wp2_with fail
        refine CT.out.mono ?_
        rintro e w6 ⟨rfl, b6⟩
        have HB6 := hide (HB5.out.trans (b6.mono HB5.out.size))
        clear b6 CT v5
        go_wp2_with fail
        go_ret
        exact ⟨by first | rfl | (simp), HB6.out⟩

end Go.Proofs.YtnmmhihfnphjeaaDoor.braceDeep

namespace Go.Proofs.YtnmmhihfnphjeaaDoor.braceDeep
open Go.ChangeShapes Go.WideShapes Go.ChangeAt Go.RowKit
open Go.ChangeMaps (open_string shut_string)
set_option linter.unusedVariables false

theorem own : ownKnob Tryd.prog.godebug = none := by kernel_rfl
theorem laidOut : laidOutB Tryd.prog = true := by kernel_rfl

set_option maxRecDepth 100000 in
theorem lifted (os : Os) (started : os.Started) (H : Type) (enc : TypeId × Value → H) :
    ReturnsInHanded {} Tryd.checked os 4 .any (fun w args => (Rows.braceDeepSpec.pre enc Tryd.prog Tryd.f4 Rows.braceDeepRow.domain false w args ∧ laidMetH Tryd.prog Rows.braceDeepRow.laid w) ∧ sizedMet enc Tryd.prog Tryd.f4 (OpenSpec.ofChange Rows.braceDeepSpec) false w args) (Rows.braceDeepSpec.post enc Tryd.prog Tryd.f4 false true false false) := by
  refine handed_laid_shaped (C := Tryd.checked) (laid := Rows.braceDeepRow.laid) own started (by kernel_rfl) Tryd.func4
    (ChangeSpec.witness_shaped (enc := enc) (C := Tryd.checked) (os := os) (X := fun w _ => laidMetH Tryd.prog Rows.braceDeepRow.laid w) false (World.laidAll Tryd.prog os Rows.braceDeepRow.laid) #[.int .i64 0, .bool false] 8 (World.laidAll_os _ _ _)
      (World.shaped_of_ZipB (by kernel_rfl) (by kernel_rfl)) (by kernel_rfl) (by kernel_rfl) (by kernel_rfl)
      (by rw [MakeChecks.laidMetH_plain _ _ _ (by kernel_rfl)]; exact laidMet_laidAll _ (by kernel_rfl) (by kernel_rfl))) ?_
  intro W base args ds gs before hval0 hW hsz0 hL hS
  have hE : Env W := env_of hL hS
  have hval : ∀ (j : Nat) t v, Tryd.f4.params[j]? = some t → args[j]? = some v → Value.okWide Tryd.prog W .any base t v := hval0
  have hW' := hW
  obtain ⟨p, q, hA0, hV, rfl, hfz, hnd⟩ := hW
  have hA : DataW.TrodAll enc Tryd.prog W 0 (fun _ => true) true Tryd.f4.params.toList args.toList ds p := hA0
  rw [Tryd.params4] at hA hval
  obtain ⟨v0, vs0, d0, ds0, p0, q0, hargs, rfl, rfl, h0, r0⟩ := trodAll_cons hA
  obtain ⟨v1, vs1, d1, ds1, p1, q1, rfl, rfl, rfl, h1, r1⟩ := trodAll_cons r0
  obtain ⟨rfl, rfl, rfl⟩ := trodAll_nil r1
  obtain rfl : args = #[v0, v1] := by cases args; simp_all
  obtain ⟨rfl, rfl⟩ := trodVars_none hV
  obtain ⟨a0, rfl, rfl, rfl, w0⟩ := open_int Tryd.underlying3 (hval 0 3 v0 rfl rfl) h0
  obtain ⟨a1, rfl, rfl, rfl⟩ := open_bool Tryd.underlying4 (hval 1 4 v1 rfl rfl) h1
  clear hA0 hval0
  refine (walk a0 a1 W hE (Go.bounds_i64 w0)).mono fun e W' ⟨he, bel⟩ => ?_
  subst he
  exact ⟨_, rfl, _, _, _, [], _, [], hW', trodAll_mk1 (shut_bool Tryd.underlying4 _), (trodAll_cons_mk (shut_int Tryd.underlying3 w0) (trodAll_cons_mk (shut_bool Tryd.underlying4 _) trodAll_mk0)), rfl, bel.frame _, fun h => by cases h⟩

theorem holds : Rows.BraceDeepSaid :=
  OpenClaim.holds_of_wide 4 Tryd.f4 rfl rfl rfl rfl rfl rfl rfl ⟨rfl, rfl, rfl, rfl, rfl⟩ rfl rfl rfl rfl rfl (by kernel_rfl) Tryd.func4 (by kernel_rfl)
    (of_decide_eq_true (by kernel_rfl)) (by unfold Func.isWrapper; first | (rw [if_pos (by decide +kernel)]; kernel_rfl) | (rw [if_neg (by decide +kernel)]; exact ⟨rfl, rfl⟩))
    (fun os started H enc _ => lifted os started H enc)

theorem proved : Rows.BraceDeepCardSaid :=
  Claim7.holds_tied_plain_at .later [] [.data, .data, .data] true (true, "e323d31132a6c551f96687f22eecae2d309949f0e19ca470e38e58611d6274b5") false holds (fun _ h => by cases h) (by kernel_rfl) (fun _ h => by cases h) braceDeep_row_tie rfl ⟨rfl, rfl⟩ (by kernel_rfl) rfl
    (fun f fn hf hfn => by
      obtain rfl : f = 4 := Option.some.inj ((show Tryd.prog.funcNamed "transhumance/transhumancelaw5.BraceDeep" = some 4 by kernel_rfl).symm.trans hf) |>.symm
      obtain rfl : fn = Tryd.f4 := (Option.some.inj (Tryd.func4.symm.trans hfn)).symm
      exact ⟨by kernel_rfl, fun j t ht => by
        rw [Tryd.params4] at ht
        have hm : t ∈ ([3, 4] : List TypeId) := by simpa using Array.mem_of_getElem? ht
        have hall : (([3, 4] : List TypeId).all fun u => !Tryd.prog.wantsStandIn u) = true := by kernel_rfl
        exact (show Tryd.prog.wantsStandIn t = false by simpa using List.all_eq_true.1 hall t hm)⟩)
    (by kernel_rfl)

end Go.Proofs.YtnmmhihfnphjeaaDoor.braceDeep
