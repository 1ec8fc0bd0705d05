/-
  The walk of BraceKeys.
  BraceKeys: a key that is there already is refused at its quote, however it is written: for every input the law answers true, and its arguments read afterwards as before. Condition: the library's variables as the program's text lays them (the card's tie).
-/
import Derived.Test.YtnmmhihfnphjeaaDoorG24
import Derived.Test.YtnmmhihfnphjeaaDoorG20
import Derived.Lib.QuietBelow
import Derived.BigQuiet
import Derived.Test.YtnmmhihfnphjeaaDoorTie
import Derived.Test.YtnmmhihfnphjeaaDoorCards
import Derived.Test.YtnmmhihfnphjeaaDoorG03
import Derived.ProofKit
import Derived.OpenShut
import Derived.ShutString
import Derived.LaidMore
import Derived.Lay
import Derived.SevenTiedAt
import Derived.Stop.Joined

namespace Go.Proofs.YtnmmhihfnphjeaaDoor.braceKeys
set_option linter.unusedSimpArgs false
set_option linter.unusedVariables false
open Go.RowKit Go.Vr Go.Sort Go.Tx Go.Lib
open Go.Br hiding Bs
open Go.Proofs.YtnmmhihfnphjeaaDoor.B
open Go.Proofs.YtnmmhihfnphjeaaDoor.W (plc rplace_any)
attribute [local go_sem] setCellDrewN allocDrewN

theorem mixed : Tryd.prog.follows .mixedOrders = true := by kernel_rfl

/-- The text behind the first n keys. -/
def sK : Nat → Bs
  | 0 => [123]
  | i + 1 => sK i ++ [34, 107] ++ itoa i ++ [34, 58] ++ itoa i ++ [44]
def xK (n k : Nat) : Bs := sK n ++ [34, 107] ++ itoa k ++ [34, 58, 48, 125]
def yK (n k : Nat) : Bs := sK n ++ [34, 75] ++ itoa k ++ [34, 58, 48, 125]
def badK (r : Val 8 ⊕ (Nat × Nat)) (p : Nat) : Bool := match r with
  | .inr (e, q) => e == 4 && q == p
  | _ => false
def goodK (r : Val 8 ⊕ (Nat × Nat)) (n : Nat) : Bool := match r with
  | .inl (Sum.inr (Sum.inr l)) => l.length == n
  | _ => false
theorem badK_is {r : Val 8 ⊕ (Nat × Nat)} {p : Nat} (h : badK r p = true) : r = .inr (4, p) := by
  unfold badK at h
  match r, h with
  | .inr (e, q), h =>
    simp only [Bool.and_eq_true, beq_iff_eq] at h
    rw [h.1, h.2]
theorem goodK_is {r : Val 8 ⊕ (Nat × Nat)} {n : Nat} (h : goodK r n = true) : ∃ l, r = .inl (Sum.inr (Sum.inr l)) ∧ l.length = n := by
  unfold goodK at h
  match r, h with
  | .inl (Sum.inr (Sum.inr l)), h => exact ⟨l, rfl, by simpa using h⟩
theorem all_ok : ∀ n, n < 10 → ∀ k, k < n + 1 → badK (parseM (xK (n + 1) k)) (sK (n + 1)).length = true ∧ goodK (parseM (yK (n + 1) k)) (n + 2) = true ∧ (sK (n + 1)).length ≤ 200 := by
  have h : ((List.range 10).all fun n => (List.range (n + 1)).all fun k => badK (parseM (xK (n + 1) k)) (sK (n + 1)).length && (goodK (parseM (yK (n + 1) k)) (n + 2) && decide ((sK (n + 1)).length ≤ 200))) = true := by decide +kernel
  intro n hn k hk
  have h1 := List.all_eq_true.1 h n (List.mem_range.2 hn)
  have h2 := List.all_eq_true.1 h1 k (List.mem_range.2 hk)
  simpa using h2
theorem third : parseM [123, 34, 97, 47, 34, 58, 49, 44, 34, 97, 92, 47, 34, 58, 50, 125] = .inr (4, 8) := badK_is (by decide +kernel)

theorem sK_len : ∀ n, n < 11 → (sK n).length ≤ 200 := by
  have h : ((List.range 11).all fun n => decide ((sK n).length ≤ 200)) = true := by decide +kernel
  intro n hn
  have := List.all_eq_true.1 h n (List.mem_range.2 hn)
  simpa using this
theorem it_len : ∀ n : Nat, n < 11 → (itoa (n : Int)).length ≤ 2 := by
  have h : ((List.range 11).all fun n => decide ((itoa ((n : Nat) : Int)).length ≤ 2)) = true := by decide +kernel
  intro n hn
  have := List.all_eq_true.1 h n (List.mem_range.2 hn)
  simpa using this
theorem p3 : plc ([123, 34, 97, 47, 34, 58, 49, 44, 34, 97, 92, 47, 34, 58, 50, 125].take 8) = .agg #[.int .i64 1, .int .i64 9] := by kernel_rfl
theorem z2 : (ByteArray.mk #[34, 107]).size = 2 := rfl
theorem z3 : (ByteArray.mk #[34, 58]).size = 2 := rfl
theorem z1 : (ByteArray.mk #[44]).size = 1 := rfl
theorem z4 : (ByteArray.mk #[34, 58, 48, 125]).size = 4 := rfl
theorem z5 : (ByteArray.mk #[34, 75]).size = 2 := rfl

set_option maxHeartbeats 16000000 in
set_option maxRecDepth 100000 in
theorem walk (a0 : Option Addr) (len0 cap0 : Nat) (z0 : List Int) (a1 : Int) (w : World) (he : Env w) (w0 : IsRow .i64 w a0 len0 cap0 z0) (h1 : -9223372036854775808 ≤ a1 ∧ a1 ≤ 9223372036854775807) :
    Calls Tryd.prog 5 #[.slice a0 len0 cap0, .int .i64 a1] w fun e w' => e = .returned (.bool true) ∧ Below w.heap.size w w' := by
  have CK := hide (known_any w he)
  have HE := hide he
  have hmx : len0 ≤ maxLen := Nat.le_trans w0.row.le w0.row.mx
  unfold maxLen at hmx
  clear he w0
  go_enter Tryd.func5, Tryd.ntmps5
  go_wp2_with fail
  refine CK.out.mono ?_
  rintro e w1 ⟨rfl, b1⟩
  go_wp2_with fail
  refine (within5_nat _ _ _ (by omega) (by omega) (by omega) (by omega)).mono ?_
  rintro e w2 ⟨j, rfl, hj, -, rfl⟩
  have HJ : Hid (j < 10) := by show _ < _; omega
  have HB1 := hide b1
  obtain ⟨K, hK⟩ : ∃ K : Nat, K = 1 + j := ⟨_, rfl⟩
  have w35 : wrap64 (1 + (j : Int)) = (K : Int) := by unfold wrap64; omega
  have HK := hide hK
  have H1 := hide h1
  clear hj b1 CK h1 hK hmx
  go_wp2_with fail
  simp only [w35]
  go_loopw [5, 7] (fun s i wr => ∃ k : Nat, k ≤ K ∧ i = .int .i64 k ∧ s = .string (str (sK k)) ∧ Hid (Below w.heap.size w wr)) (fun _ i _ => K - (RowKit.intOf i).toNat)
  case atStart => exact ⟨0, Nat.zero_le _, rfl, rfl, HB1⟩
  case round =>
    obtain ⟨k, hkK, rfl, rfl, HB⟩ := hrel
    by_cases hlt : k < K
    · have hk11 : k < 11 := by have := HK.out; have := HJ.out; omega
      have CD := hide (fun W => rdigits_any k W (by omega) (by omega))
      have i1 : (k : Int) < (K : Int) := by omega
      have HKW : Hid (wrap64 ((k : Int) + 1) = ((k + 1 : Nat) : Int)) := by show _ = _; unfold wrap64; omega
      have q1 : (str (sK k)).size ≤ 200 := by rw [str_size]; exact sK_len k hk11
      have q2 : (str (itoa (k : Int))).size ≤ 2 := by rw [str_size]; exact it_len k hk11
      have n1 : ¬ 9223372036854775807 < (str (sK k)).size + 2 := by omega
      have n2 : ¬ 9223372036854775807 < (str (sK k)).size + 2 + (str (itoa (k : Int))).size := by omega
      have n3 : ¬ 9223372036854775807 < (str (sK k)).size + 2 + (str (itoa (k : Int))).size + 2 := by omega
      have n4 : ¬ 9223372036854775807 < (str (sK k)).size + 2 + (str (itoa (k : Int))).size + 2 + (str (itoa (k : Int))).size := by omega
      have n5 : ¬ 9223372036854775807 < (str (sK k)).size + 2 + (str (itoa (k : Int))).size + 2 + (str (itoa (k : Int))).size + 1 := by omega
      have ex : ((((str (sK k) ++ ByteArray.mk #[34, 107]) ++ str (itoa (k : Int))) ++ ByteArray.mk #[34, 58]) ++ str (itoa (k : Int))) ++ ByteArray.mk #[44] = str (sK (k + 1)) := by
        show ((((str (sK k) ++ str [34, 107]) ++ str (itoa (k : Int))) ++ str [34, 58]) ++ str (itoa (k : Int))) ++ str [44] = _
        rw [str_app, str_app, str_app, str_app, str_app]; rfl
      have hlt' := hide hlt
      clear q1 q2 hlt hkK hk11
      go_wp2_with fail
      refine (CD.out _).mono ?_
      rintro e w3 ⟨rfl, b3⟩
      have HB3 := hide (HB.out.trans (b3.mono HB.out.size))
      clear b3
      go_wp2_with fail
      refine (CD.out _).mono ?_
      rintro e w4 ⟨rfl, b4⟩
      have HB4 := hide (HB3.out.trans (b4.mono HB3.out.size))
      clear b4 CD
      go_wp2_with fail
      go_roundw
      case rel => exact ⟨k + 1, by have := hlt'.out; omega, (by first | exact congrArg (Value.int .i64) HKW.out | rfl), by first | rfl | exact congrArg Value.string ex, HB4⟩
      case measure => exact measB (by first | exact HKW.out | rfl) hlt'.out
    · obtain rfl : k = K := by omega
      have i2 : ¬ ((k : Int) < (k : Int)) := by omega
      have hk1 : 1 ≤ k := by have := HK.out; omega
      have hk10 : k ≤ 10 := by have := HK.out; have := HJ.out; omega
      have HK1 := hide hk1
      have HK10 := hide hk10
      have h1 := H1.out
      clear hlt hkK w35
      go_wp2_with fail
      refine (within5_nat _ _ _ (by omega) (by omega) (by omega) (by omega)).mono ?_
      rintro e w3 ⟨m, rfl, hm, -, rfl⟩
      have hmk : m < k := by omega
      obtain ⟨hx, hy, hl⟩ := all_ok (k - 1) (by omega) m (by omega)
      rw [show k - 1 + 1 = k by omega] at hx hy hl
      rw [show k - 1 + 2 = k + 1 by omega] at hy
      have hxx := badK_is hx
      obtain ⟨ly, hyy, hly⟩ := goodK_is hy
      have q1 : (str (sK k)).size ≤ 200 := by rw [str_size]; exact hl
      have q2 : (str (itoa (m : Int))).size ≤ 2 := by rw [str_size]; exact it_len m (by omega)
      have n1 : ¬ 9223372036854775807 < (str (sK k)).size + 2 := by omega
      have n2 : ¬ 9223372036854775807 < (str (sK k)).size + 2 + (str (itoa (m : Int))).size := by omega
      have n3 : ¬ 9223372036854775807 < (str (sK k)).size + 2 + (str (itoa (m : Int))).size + 4 := by omega
      have ex : ((str (sK k) ++ ByteArray.mk #[34, 107]) ++ str (itoa (m : Int))) ++ ByteArray.mk #[34, 58, 48, 125] = str (xK k m) := by
        show ((str (sK k) ++ str [34, 107]) ++ str (itoa (m : Int))) ++ str [34, 58, 48, 125] = _
        rw [str_app, str_app, str_app]; rfl
      have ey : ((str (sK k) ++ ByteArray.mk #[34, 75]) ++ str (itoa (m : Int))) ++ ByteArray.mk #[34, 58, 48, 125] = str (yK k m) := by
        show ((str (sK k) ++ str [34, 75]) ++ str (itoa (m : Int))) ++ str [34, 58, 48, 125] = _
        rw [str_app, str_app, str_app]; rfl
      have qx : (str (xK k m)).size ≤ 300 := by rw [← ex]; simp only [ByteArray.size_append, z2, z4]; omega
      have qy : (str (yK k m)).size ≤ 300 := by rw [← ey]; simp only [ByteArray.size_append, z5, z4]; omega
      have CX := hide (fun W => parse_any (str (xK k m)) W (by omega))
      simp only [str_list, hxx] at CX
      have CY := hide (fun W => parse_any (str (yK k m)) W (by omega))
      simp only [str_list, hyy] at CY
      have CZ := hide (fun W => parse_any ⟨#[123, 34, 97, 47, 34, 58, 49, 44, 34, 97, 92, 47, 34, 58, 50, 125]⟩ W (by decide))
      simp only [show (ByteArray.mk #[123, 34, 97, 47, 34, 58, 49, 44, 34, 97, 92, 47, 34, 58, 50, 125]).data.toList = [123, 34, 97, 47, 34, 58, 49, 44, 34, 97, 92, 47, 34, 58, 50, 125] from rfl, third] at CZ
      have CP := hide (fun W => rplace_any (str (xK k m)) ((sK k).length : Nat) W (by omega))
      simp only [str_list, Int.toNat_natCast] at CP
      obtain ⟨pi, pj', hij⟩ : ∃ i j : Int, plc ((xK k m).take (sK k).length) = .agg #[.int .i64 i, .int .i64 j] := ⟨_, _, rfl⟩
      rw [hij] at CP
      have HI := hide hij
      have HLY := hide hly
      have hsz : ((str (sK k)).size : Int) = ((sK k).length : Nat) := by rw [str_size]
      have CD := hide (fun W => rdigits_any m W (by omega) (by omega))
      clear hx hy hl hxx hyy hly q1 q2 qx qy hij hmk hm h1 hk1 hk10
      go_wp2_with fail
      refine (CD.out _).mono ?_
      rintro e w4 ⟨rfl, b4⟩
      have HB4 := hide (HB.out.trans (b4.mono HB.out.size))
      clear b4
      go_wp2_with fail
      refine (CD.out _).mono ?_
      rintro e w5 ⟨rfl, b5⟩
      have HB5 := hide (HB4.out.trans (b5.mono HB4.out.size))
      clear b5 CD
      go_wp2_with fail
      refine (CX.out _).mono ?_
      rintro e w6 ⟨b6, -, hm6⟩
      obtain rfl : e = .returned (.tuple #[SV.zero.val, .agg #[.int .i64 pi, .int .i64 pj'], .int .i64 4]) := by rw [← HI.out]; exact hm6
      have hb7 : Below w6.heap.size w6 ((w6.alloc (.cells SV.zero.cells 39)).alloc (.cells #[.int .i64 pi, .int .i64 pj'] 29)) := (by repeat (first | with_reducible assumption | with_reducible exact Below.refl _ _ | with_reducible refine Below.setCell ?_ (by first | exact Nat.le_refl _ | (simp; done) | (simp; omega)) _ | with_reducible refine bal ?_ _ | with_reducible refine Below.alloc ?_ (by first | exact Nat.le_refl _ | (simp; done) | (simp; omega)) _ | with_reducible refine Below.drew ?_))
      have HB7 := hide (HB5.out.trans ((b6.trans (hb7.mono b6.size)).mono HB5.out.size))
      have px := Box.new (w6.alloc (.cells SV.zero.cells 39)) #[.int .i64 pi, .int .i64 pj'] 29
      rw [show (w6.alloc (.cells SV.zero.cells 39)).heap.size = w6.heap.size + 1 by simp] at px
      have PX := hide px
      clear b6 hm6 hb7 CX px
      go_wp2_with fail
      generalize (w6.alloc (.cells SV.zero.cells 39)).alloc (.cells #[.int .i64 pi, .int .i64 pj'] 29) = W7 at *
      refine (CY.out _).mono ?_
      rintro e w8 ⟨b8, ⟨vk, vn, vs, ka, kn, kc, la, ln, lc⟩, rfl, hv⟩
      obtain ⟨-, hrk, -⟩ := hv
      obtain rfl : kn = k + 1 := by have h : (ly.map Prod.fst).length = kn := hrk.row.n; rw [List.length_map] at h; have := HLY.out; omega
      have hb9 : Below w8.heap.size w8 ((w8.alloc (.cells #[.int .i64 vk, .int .i64 vn, .string vs, .slice ka (k + 1) kc, .slice la ln lc] 39)).alloc (.cells #[.int .i64 0, .int .i64 0] 29)) := (by repeat (first | with_reducible assumption | with_reducible exact Below.refl _ _ | with_reducible refine Below.setCell ?_ (by first | exact Nat.le_refl _ | (simp; done) | (simp; omega)) _ | with_reducible refine bal ?_ _ | with_reducible refine Below.alloc ?_ (by first | exact Nat.le_refl _ | (simp; done) | (simp; omega)) _ | with_reducible refine Below.drew ?_))
      have HB9 := hide (HB7.out.trans ((b8.trans (hb9.mono b8.size)).mono HB7.out.size))
      have PX9 := hide ((PX.out.later b8).later hb9)
      have VX9 := hide ((Box.new w8 #[.int .i64 vk, .int .i64 vn, .string vs, .slice ka (k + 1) kc, .slice la ln lc] 39).alloc (.cells #[.int .i64 0, .int .i64 0] 29))
      clear b8 hb9 hrk CY PX
      go_wp2_with fail
      generalize (w8.alloc (.cells #[.int .i64 vk, .int .i64 vn, .string vs, .slice ka (k + 1) kc, .slice la ln lc] 39)).alloc (.cells #[.int .i64 0, .int .i64 0] 29) = W9 at *
      refine (CZ.out _).mono ?_
      rintro e w10 ⟨b10, -, hm10⟩
      obtain rfl : e = .returned (.tuple #[SV.zero.val, .agg #[.int .i64 1, .int .i64 9], .int .i64 4]) := by rw [← p3]; exact hm10
      have hb11 : Below w10.heap.size w10 ((w10.alloc (.cells SV.zero.cells 39)).alloc (.cells #[.int .i64 1, .int .i64 9] 29)) := (by repeat (first | with_reducible assumption | with_reducible exact Below.refl _ _ | with_reducible refine Below.setCell ?_ (by first | exact Nat.le_refl _ | (simp; done) | (simp; omega)) _ | with_reducible refine bal ?_ _ | with_reducible refine Below.alloc ?_ (by first | exact Nat.le_refl _ | (simp; done) | (simp; omega)) _ | with_reducible refine Below.drew ?_))
      have HB11 := hide (HB9.out.trans ((b10.trans (hb11.mono b10.size)).mono HB9.out.size))
      have px1 := ((PX9.out.later b10).later hb11).c
      have vx1 := ((VX9.out.later b10).later hb11).c
      have pz1 := (Box.new (w10.alloc (.cells SV.zero.cells 39)) #[.int .i64 1, .int .i64 9] 29).c
      rw [show (w10.alloc (.cells SV.zero.cells 39)).heap.size = w10.heap.size + 1 by simp] at pz1
      clear b10 hm10 hb11 CZ PX9 VX9
      go_wp2_with fail
      generalize (w10.alloc (.cells SV.zero.cells 39)).alloc (.cells #[.int .i64 1, .int .i64 9] 29) = W11 at *
      have k0 := cell_regrown (px1 0)
      have k1 := cell_regrown (px1 1)
      have k2 := cell_regrown (vx1 3)
      have k3 := cell_regrown (pz1 0)
      have k4 := cell_regrown (pz1 1)
      have hkw : wrap64 ((k : Int) + 1) = ((k + 1 : Nat) : Int) := by have := HK10.out; unfold wrap64; omega
      clear px1 vx1 pz1
      refine wp_region_quiet_below mixed (by kernel_rfl) ?_
      iterate 6 (go_big_quiet_step (fail))
      go_big_quiet_step (exact Calls.regrown_of (CP.out _))
      iterate 24 (go_big_quiet_step (fail))
      refine wpQuiet_nil ?_
      rintro w12 ⟨p12, rfl⟩
      have B12 := hide (HB11.out.trans ((below_regrown W11 p12.d p12.os).mono HB11.out.size))
      go_wp2_with fail
      go_ret
      exact ⟨by first | rfl | simp, B12.out⟩

end Go.Proofs.YtnmmhihfnphjeaaDoor.braceKeys

namespace Go.Proofs.YtnmmhihfnphjeaaDoor.braceKeys
open Go.ChangeShapes Go.WideShapes Go.ChangeAt Go.RowKit
open Go.ChangeMaps (open_string shut_string)
set_option linter.unusedVariables false

theorem own : ownKnob Tryd.prog.godebug = none := by kernel_rfl
theorem laidOut : laidOutB Tryd.prog = true := by kernel_rfl

set_option maxRecDepth 100000 in
theorem lifted (os : Os) (started : os.Started) (H : Type) (enc : TypeId × Value → H) :
    ReturnsInHanded {} Tryd.checked os 5 .any (fun w args => (Rows.braceKeysSpec.pre enc Tryd.prog Tryd.f5 Rows.braceKeysRow.domain false w args ∧ laidMetH Tryd.prog Rows.braceKeysRow.laid w) ∧ sizedMet enc Tryd.prog Tryd.f5 (OpenSpec.ofChange Rows.braceKeysSpec) false w args) (Rows.braceKeysSpec.post enc Tryd.prog Tryd.f5 false true false false) := by
  refine handed_laid_shaped (C := Tryd.checked) (laid := Rows.braceKeysRow.laid) own started (by kernel_rfl) Tryd.func5
    (ChangeSpec.witness_shaped (enc := enc) (C := Tryd.checked) (os := os) (X := fun w _ => laidMetH Tryd.prog Rows.braceKeysRow.laid w) false (World.laidAll Tryd.prog os Rows.braceKeysRow.laid) #[.slice none 0 0, .int .i64 0] 8 (World.laidAll_os _ _ _)
      (World.shaped_of_ZipB (by kernel_rfl) (by kernel_rfl)) (by kernel_rfl) (by kernel_rfl) (by kernel_rfl)
      (by rw [MakeChecks.laidMetH_plain _ _ _ (by kernel_rfl)]; exact laidMet_laidAll _ (by kernel_rfl) (by kernel_rfl))) ?_
  intro W base args ds gs before hval0 hW hsz0 hL hS
  have hE : Env W := env_of hL hS
  have hval : ∀ (j : Nat) t v, Tryd.f5.params[j]? = some t → args[j]? = some v → Value.okWide Tryd.prog W .any base t v := hval0
  have hW' := hW
  obtain ⟨p, q, hA0, hV, rfl, hfz, hnd⟩ := hW
  have hA : DataW.TrodAll enc Tryd.prog W 0 (fun _ => true) true Tryd.f5.params.toList args.toList ds p := hA0
  rw [Tryd.params5] at hA hval
  obtain ⟨v0, vs0, d0, ds0, p0, q0, hargs, rfl, rfl, h0, r0⟩ := trodAll_cons hA
  obtain ⟨v1, vs1, d1, ds1, p1, q1, rfl, rfl, rfl, h1, r1⟩ := trodAll_cons r0
  obtain ⟨rfl, rfl, rfl⟩ := trodAll_nil r1
  obtain rfl : args = #[v0, v1] := by cases args; simp_all
  obtain ⟨rfl, rfl⟩ := trodVars_none hV
  obtain ⟨a0, len0, cap0, rfl⟩ := okWide_slice Tryd.underlying45 (hval 0 45 v0 rfl rfl)
  have k0 := h0
  have lt0 : ∀ x ∈ p0, x.block < W.heap.size := by obtain ⟨m, hm⟩ := k0; exact DataW.trod_lt m _ _ _ hm
  obtain ⟨z0, w0⟩ : ∃ zs, IsRow .i64 W a0 len0 cap0 zs := by
    obtain ⟨fuel, hf⟩ := h0
    rcases open_ints Tryd.underlying45 Tryd.underlying3 (by kernel_rfl) hf with ⟨hcs, _⟩ | ⟨x, l, c, zs, hcs, _, hl, hm, hz, _, hcell, hwz⟩
    · simp [Value.cells] at hcs
      obtain ⟨rfl, rfl, rfl⟩ := hcs
      exact ⟨[], .inl ⟨rfl, rfl, rfl, rfl⟩⟩
    · simp [Value.cells] at hcs
      obtain ⟨rfl, rfl, rfl⟩ := hcs
      exact ⟨zs, .inr ⟨_, rfl, hl, hm, by simpa using hz, hcell, hwz⟩⟩
  obtain ⟨a1, rfl, rfl, rfl, w1⟩ := open_int Tryd.underlying3 (hval 1 3 v1 rfl rfl) h1
  clear hA0 hval0
  refine (walk a0 len0 cap0 z0 a1 W hE w0 (Go.bounds_i64 w1)).mono fun e W' ⟨he, bel⟩ => ?_
  subst he
  exact ⟨_, rfl, _, _, _, [], _, [], hW', trodAll_mk1 (shut_bool Tryd.underlying4 _), (trodAll_cons_mk (Below.trod laidOut (by kernel_rfl) (of_decide_eq_true (by kernel_rfl)) k0 bel lt0) (trodAll_cons_mk (shut_int Tryd.underlying3 w1) trodAll_mk0)), rfl, bel.frame _, fun h => by cases h⟩

theorem holds : Rows.BraceKeysSaid :=
  OpenClaim.holds_of_wide 5 Tryd.f5 rfl rfl rfl rfl rfl rfl rfl ⟨rfl, rfl, rfl, rfl, rfl⟩ rfl rfl rfl rfl rfl (by kernel_rfl) Tryd.func5 (by kernel_rfl)
    (of_decide_eq_true (by kernel_rfl)) (by unfold Func.isWrapper; first | (rw [if_pos (by decide +kernel)]; kernel_rfl) | (rw [if_neg (by decide +kernel)]; exact ⟨rfl, rfl⟩))
    (fun os started H enc _ => lifted os started H enc)

theorem proved : Rows.BraceKeysCardSaid :=
  Claim7.holds_tied_plain_at .later [] [.data, .data, .data] true (true, "e323d31132a6c551f96687f22eecae2d309949f0e19ca470e38e58611d6274b5") false holds (fun _ h => by cases h) (by kernel_rfl) (fun _ h => by cases h) braceKeys_row_tie rfl ⟨rfl, rfl⟩ (by kernel_rfl) rfl
    (fun f fn hf hfn => by
      obtain rfl : f = 5 := Option.some.inj ((show Tryd.prog.funcNamed "transhumance/transhumancelaw5.BraceKeys" = some 5 by kernel_rfl).symm.trans hf) |>.symm
      obtain rfl : fn = Tryd.f5 := (Option.some.inj (Tryd.func5.symm.trans hfn)).symm
      exact ⟨by kernel_rfl, fun j t ht => by
        rw [Tryd.params5] at ht
        have hm : t ∈ ([45, 3] : List TypeId) := by simpa using Array.mem_of_getElem? ht
        have hall : (([45, 3] : List TypeId).all fun u => !Tryd.prog.wantsStandIn u) = true := by kernel_rfl
        exact (show Tryd.prog.wantsStandIn t = false by simpa using List.all_eq_true.1 hall t hm)⟩)
    (by kernel_rfl)

end Go.Proofs.YtnmmhihfnphjeaaDoor.braceKeys
