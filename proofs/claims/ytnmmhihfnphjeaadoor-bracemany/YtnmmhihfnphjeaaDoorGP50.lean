/-
  The walk of BraceMany.
  BraceMany: forty locks may be, more may not: for every input the law answers true, and its arguments read afterwards as before. Condition: the library's variables as the program's text lays them (the card's tie).
-/
import Derived.Test.YtnmmhihfnphjeaaDoorG24
import Derived.Test.YtnmmhihfnphjeaaDoorG20
import Derived.Test.YtnmmhihfnphjeaaDoorTie
import Derived.Test.YtnmmhihfnphjeaaDoorCards
import Derived.Test.YtnmmhihfnphjeaaDoorG03
import Derived.ProofKit
import Derived.OpenShut
import Derived.ShutString
import Derived.LaidMore
import Derived.Lay
import Derived.SevenTiedAt
import Derived.Stop.Joined

namespace Go.Proofs.YtnmmhihfnphjeaaDoor.braceMany
set_option linter.unusedSimpArgs false
set_option linter.unusedVariables false
open Go.RowKit Go.Vr Go.Sort Go.Tx Go.Lib
open Go.Pa (right)
open Go.Br hiding Bs
open Go.Proofs.YtnmmhihfnphjeaaDoor.B
open Go.Proofs.YtnmmhihfnphjeaaDoor.W (plc)
attribute [local go_sem] setCellDrewN allocDrewN

/-- The i-th lock. -/
def mk (i : Nat) : Lk := ⟨109 :: itoa i, [118, 49, 46, 48, 46, 48], [], [], []⟩
def lsM (k : Nat) : List Lk := (List.range k).map mk
theorem lsM_succ (k : Nat) : lsM (k + 1) = lsM k ++ [mk k] := by unfold lsM; rw [List.range_succ, List.map_append]; rfl
theorem lsM_len (k : Nat) : (lsM k).length = k := by unfold lsM; simp
theorem mk_ok : ∀ i, i < 45 → (plain (mk i).root = true ∧ ownM (mk i) = 0) ∧ (mk i).root.length ≤ 3 := by
  have h : ((List.range 45).all fun i => (plain (mk i).root && decide (ownM (mk i) = 0)) && decide ((mk i).root.length ≤ 3)) = true := by decide +kernel
  intro i hi
  have := List.all_eq_true.1 h i (List.mem_range.2 hi)
  simp only [Bool.and_eq_true, decide_eq_true_eq] at this
  exact this
theorem len_ok : ∀ j, j < 10 → (writeM (lsM (35 + j))).length ≤ 8000 := by
  have h : ((List.range 10).all fun j => decide ((writeM (lsM (35 + j))).length ≤ 8000)) = true := by decide +kernel
  intro j hj
  have := List.all_eq_true.1 h j (List.mem_range.2 hj)
  simpa using this
theorem nodup_ok : ∀ k, k ≤ 45 → ((lsM k).map Lk.root).Nodup := by
  have h : ((lsM 45).map Lk.root).Nodup := by decide +kernel
  intro k hk
  refine List.Nodup.sublist (List.Sublist.map _ ?_) h
  unfold lsM
  exact List.Sublist.map _ (List.range_sublist.2 hk)
theorem plain_ok {k : Nat} (hk : k ≤ 45) : ∀ x ∈ lsM k, plainL x := by
  intro x hx
  unfold lsM at hx
  obtain ⟨i, hi, rfl⟩ := List.mem_map.1 hx
  have := (mk_ok i (by have := List.mem_range.1 hi; omega)).1.1
  exact ⟨this, (by show plain [118, 49, 46, 48, 46, 48] = true; decide), rfl, rfl, rfl⟩
theorem own_ok {k : Nat} (hk : k ≤ 45) : ∀ x ∈ lsM k, ownM x = 0 := by
  intro x hx
  unfold lsM at hx
  obtain ⟨i, hi, rfl⟩ := List.mem_map.1 hx
  exact (mk_ok i (by have := List.mem_range.1 hi; omega)).1.2
theorem many (j : Nat) (hj : j < 10) : locksM (writeM (lsM (35 + j))) = if 40 < 35 + j then .inr (2, 0) else .inl (lsM (35 + j)) := by
  rw [locks_write _ (plain_ok (by omega)) (len_ok j hj)]
  have h := faultG_ok (lsM (35 + j)) [] (own_ok (by omega)) (by simpa using nodup_ok (35 + j) (by omega))
  unfold faultM
  rw [h, lsM_len, List.length_nil, Nat.zero_add]
  by_cases h40 : 40 < 35 + j
  · rw [if_pos h40, if_pos h40]; rfl
  · rw [if_neg h40, if_neg h40]; rfl

set_option maxHeartbeats 8000000 in
set_option maxRecDepth 100000 in
theorem walk (a0 : Int) (w : World) (he : Env w) (h0 : -9223372036854775808 ≤ a0 ∧ a0 ≤ 9223372036854775807) :
    Calls Tryd.prog 3 #[.int .i64 a0] w fun e w' => e = .returned (.bool true) ∧ Below w.heap.size w w' := by
  have CK := hide (known_any w he)
  have HE := hide he
  clear he
  go_enter Tryd.func3, Tryd.ntmps3
  go_wp2_with fail
  refine CK.out.mono ?_
  rintro e w1 ⟨rfl, b1⟩
  go_wp2_with fail
  refine (within5_nat _ _ _ (by omega) (by omega) (by omega) (by omega)).mono ?_
  rintro e w2 ⟨j, rfl, hj, -, rfl⟩
  have HJ : Hid (j < 10) := by show _ < _; omega
  have HB1 := hide b1
  obtain ⟨K, hK⟩ : ∃ K : Nat, K = 35 + j := ⟨_, rfl⟩
  have w35 : wrap64 (35 + (j : Int)) = (K : Int) := by unfold wrap64; omega
  have HK := hide hK
  clear hj b1 CK h0 hK
  go_wp2_with fail
  simp only [w35]
  go_loopw [4, 5] (fun l i wr => ∃ k : Nat, k ≤ K ∧ i = .int .i64 k ∧ Hid (EOwn ELk wr w2.heap.size l (lsM k)) ∧ Hid (Below w2.heap.size w2 wr)) (fun _ i _ => K - (RowKit.intOf i).toNat)
  case atStart => exact ⟨0, Nat.zero_le _, rfl, EOwn.nil _ _, Below.refl _ _⟩
  case round =>
    obtain ⟨k, hkK, rfl, HO, HB⟩ := hrel
    by_cases hlt : k < K
    · have hk45 : k < 45 := by have := HK.out; have := HJ.out; omega
      have CD := hide (fun W => rdigits_any k W (by omega) (by omega))
      obtain ⟨oa, oc, hOe, -, -, -⟩ := HO.out.any
      rw [lsM_len] at hOe
      subst hOe
      have i1 : (k : Int) < (K : Int) := by omega
      have HKW : Hid (wrap64 ((k : Int) + 1) = ((k + 1 : Nat) : Int)) := by show _ = _; unfold wrap64; omega
      have hzn : (109 :: itoa (k : Int)).length ≤ 3 := (mk_ok k hk45).2
      have n0 : ¬ 9223372036854775807 < 1 + (str (itoa (k : Int))).size := by rw [str_size]; simp at hzn; omega
      have hcat : ByteArray.mk #[109] ++ str (itoa (k : Int)) = str (mk k).root := str_app [109] _
      have hsz := HB.out.size
      have H45 := hide hk45
      have hlt' := hide hlt
      clear hzn hlt hkK hk45
      go_wp2_with fail
      refine (CD.out _).mono ?_
      rintro e w3 ⟨rfl, b3⟩
      have HO3 := hide (HO.out.later b3)
      have HB3 := hide (HB.out.trans (b3.mono hsz))
      clear b3 CD
      go_wp2_with (refine wpList_eapp ELk rfl _ _ rfl w2.heap.size _ (lsM k) (some _) 1 1 [mk k] rfl rfl (HO3.out.later (by repeat (first | with_reducible assumption | with_reducible exact Below.refl _ _ | with_reducible refine Below.setCell ?_ (by first | exact Nat.le_refl _ | (simp; done) | (simp; omega)) _ | with_reducible refine bal ?_ _ | with_reducible refine Below.alloc ?_ (by first | exact Nat.le_refl _ | (simp; done) | (simp; omega)) _ | with_reducible refine Below.drew ?_))) (ERow.newAt ELk _ (at_new _ _ _ (by simp))) (by rw [lsM_len]; have := H45.out; omega) (by have := HB3.out.size; simp; omega) ?_; intro o' w4 o4 g4 t4)
      have hB4 : Below w2.heap.size w2 w4 := (HB3.out.trans (show Below w2.heap.size w3 (w3.alloc (.cells (lkc (mk k)) 27)) from (Below.refl _ _).alloc (by have := HB3.out.size; omega) _)).grown g4 (by have := HB3.out.size; simp; omega) (fun j e => (HO3.out.low j e).1)
      have HB4 := hide hB4
      have HO4 : Hid (EOwn ELk w4 w2.heap.size o' (lsM (k + 1))) := by show EOwn _ _ _ _ _; rw [lsM_succ]; exact o4
      clear o4 g4 t4 hB4
      go_wp2_with fail
      go_roundw
      case rel => exact ⟨k + 1, by have := hlt'.out; omega, (by first | exact congrArg (Value.int .i64) HKW.out | rfl), HO4, HB4⟩
      case measure => exact measB (by first | exact HKW.out | rfl) hlt'.out
    · obtain rfl : k = K := by omega
      obtain ⟨oa, oc, hOe, -, -, hrow⟩ := HO.out.any
      rw [lsM_len] at hOe hrow
      subst hOe
      have hwl : (writeM (lsM k)).length ≤ 8000 := by have := len_ok j HJ.out; rw [← HK.out] at this; exact this
      have hmy : locksM (writeM (lsM k)) = if 40 < k then .inr (2, 0) else .inl (lsM k) := by have := many j HJ.out; rw [← HK.out] at this; exact this
      have hk45 : k ≤ 45 := by have := HK.out; have := HJ.out; omega
      have CW := hide (write_any oa k oc (lsM k) wr hrow (by omega) (HE.out.later (HB1.out.trans (HB.out.mono HB1.out.size))) (plain_ok hk45) (by omega))
      have CL := hide (fun W hW => locks_any (str (writeM (lsM k))) W (by rw [str_size]; omega) hW)
      simp only [str_list, hmy] at CL
      have HRW := hide hrow
      have HBW := hide (HB1.out.trans (HB.out.mono HB1.out.size))
      have i2 : ¬ ((k : Int) < (k : Int)) := by omega
      have H45 := hide hk45
      generalize writeM (lsM k) = tx at *
      clear hwl hmy hk45 hrow w35 hlt hkK HO
      go_wp2_with fail
      refine CW.out.mono ?_
      rintro e w3 ⟨rfl, b3⟩
      have HB3 := hide (HBW.out.trans (b3.mono HBW.out.size))
      have HR3 := hide (HRW.out.later b3)
      clear b3 CW HRW HBW
      go_wp2_with fail
      refine (CL.out w3 (HE.out.later HB3.out)).mono ?_
      rintro e w4 ⟨b4, hm⟩
      have HB4 := hide (HB3.out.trans (b4.mono HB3.out.size))
      have HR4 := hide (HR3.out.later b4)
      clear b4 CL HR3
      by_cases h40 : 40 < k
      · rw [if_pos h40] at hm
        obtain ⟨-, hm⟩ := hm
        obtain rfl : e = .returned (.tuple #[.slice none 0 0, .agg #[.int .i64 1, .int .i64 1], .int .i64 2]) := hm
        have d40 : (k : Int) > 40 := by omega
        clear h40
        go_wp2_with fail
        go_ret
        exact ⟨rfl, HB4.out.alloc HB4.out.size _⟩
      · rw [if_neg h40] at hm
        obtain ⟨v', rfl, ho⟩ := hm
        obtain ⟨va, vc, rfl, -, -, hrv⟩ := ho.any
        rw [lsM_len] at hrv ⊢
        have d40 : ¬ (k : Int) > 40 := by omega
        have hb5 : Below w4.heap.size w4 (w4.alloc (.cells #[.int .i64 0, .int .i64 0] 29)) := (by repeat (first | with_reducible assumption | with_reducible exact Below.refl _ _ | with_reducible refine Below.setCell ?_ (by first | exact Nat.le_refl _ | (simp; done) | (simp; omega)) _ | with_reducible refine bal ?_ _ | with_reducible refine Below.alloc ?_ (by first | exact Nat.le_refl _ | (simp; done) | (simp; omega)) _ | with_reducible refine Below.drew ?_))
        have CR := hide (rows_same oa va k oc vc (lsM k) _ (HR4.out.later hb5) (hrv.later hb5) (by have := H45.out; omega))
        have HB5 := hide (HB4.out.trans (hb5.mono HB4.out.size))
        clear h40 ho hrv hb5
        go_wp2_with fail
        refine CR.out.mono ?_
        rintro e w6 ⟨rfl, b6⟩
        have HB6 := hide (HB5.out.trans (b6.mono HB5.out.size))
        clear b6 CR
        go_wp2_with fail
        go_ret
        exact ⟨rfl, HB6.out⟩

end Go.Proofs.YtnmmhihfnphjeaaDoor.braceMany

namespace Go.Proofs.YtnmmhihfnphjeaaDoor.braceMany
open Go.ChangeShapes Go.WideShapes Go.ChangeAt Go.RowKit
open Go.ChangeMaps (open_string shut_string)
set_option linter.unusedVariables false

theorem own : ownKnob Tryd.prog.godebug = none := by kernel_rfl
theorem laidOut : laidOutB Tryd.prog = true := by kernel_rfl

set_option maxRecDepth 100000 in
theorem lifted (os : Os) (started : os.Started) (H : Type) (enc : TypeId × Value → H) :
    ReturnsInHanded {} Tryd.checked os 3 .any (fun w args => (Rows.braceManySpec.pre enc Tryd.prog Tryd.f3 Rows.braceManyRow.domain false w args ∧ laidMetH Tryd.prog Rows.braceManyRow.laid w) ∧ sizedMet enc Tryd.prog Tryd.f3 (OpenSpec.ofChange Rows.braceManySpec) false w args) (Rows.braceManySpec.post enc Tryd.prog Tryd.f3 false true false false) := by
  refine handed_laid_shaped (C := Tryd.checked) (laid := Rows.braceManyRow.laid) own started (by kernel_rfl) Tryd.func3
    (ChangeSpec.witness_shaped (enc := enc) (C := Tryd.checked) (os := os) (X := fun w _ => laidMetH Tryd.prog Rows.braceManyRow.laid w) false (World.laidAll Tryd.prog os Rows.braceManyRow.laid) #[.int .i64 0] 8 (World.laidAll_os _ _ _)
      (World.shaped_of_ZipB (by kernel_rfl) (by kernel_rfl)) (by kernel_rfl) (by kernel_rfl) (by kernel_rfl)
      (by rw [MakeChecks.laidMetH_plain _ _ _ (by kernel_rfl)]; exact laidMet_laidAll _ (by kernel_rfl) (by kernel_rfl))) ?_
  intro W base args ds gs before hval0 hW hsz0 hL hS
  have hE : Env W := env_of hL hS
  have hval : ∀ (j : Nat) t v, Tryd.f3.params[j]? = some t → args[j]? = some v → Value.okWide Tryd.prog W .any base t v := hval0
  have hW' := hW
  obtain ⟨p, q, hA0, hV, rfl, hfz, hnd⟩ := hW
  have hA : DataW.TrodAll enc Tryd.prog W 0 (fun _ => true) true Tryd.f3.params.toList args.toList ds p := hA0
  rw [Tryd.params3] at hA hval
  obtain ⟨v0, vs0, d0, ds0, p0, q0, hargs, rfl, rfl, h0, r0⟩ := trodAll_cons hA
  obtain ⟨rfl, rfl, rfl⟩ := trodAll_nil r0
  obtain rfl : args = #[v0] := by cases args; simp_all
  obtain ⟨rfl, rfl⟩ := trodVars_none hV
  obtain ⟨a0, rfl, rfl, rfl, w0⟩ := open_int Tryd.underlying3 (hval 0 3 v0 rfl rfl) h0
  clear hA0 hval0
  refine (walk a0 W hE (Go.bounds_i64 w0)).mono fun e W' ⟨he, bel⟩ => ?_
  subst he
  exact ⟨_, rfl, _, _, _, [], _, [], hW', trodAll_mk1 (shut_bool Tryd.underlying4 _), (trodAll_cons_mk (shut_int Tryd.underlying3 w0) trodAll_mk0), rfl, bel.frame _, fun h => by cases h⟩

theorem holds : Rows.BraceManySaid :=
  OpenClaim.holds_of_wide 3 Tryd.f3 rfl rfl rfl rfl rfl rfl rfl ⟨rfl, rfl, rfl, rfl, rfl⟩ rfl rfl rfl rfl rfl (by kernel_rfl) Tryd.func3 (by kernel_rfl)
    (of_decide_eq_true (by kernel_rfl)) (by unfold Func.isWrapper; first | (rw [if_pos (by decide +kernel)]; kernel_rfl) | (rw [if_neg (by decide +kernel)]; exact ⟨rfl, rfl⟩))
    (fun os started H enc _ => lifted os started H enc)

theorem proved : Rows.BraceManyCardSaid :=
  Claim7.holds_tied_plain_at .later [] [.data, .data, .data] true (true, "e323d31132a6c551f96687f22eecae2d309949f0e19ca470e38e58611d6274b5") false holds (fun _ h => by cases h) (by kernel_rfl) (fun _ h => by cases h) braceMany_row_tie rfl ⟨rfl, rfl⟩ (by kernel_rfl) rfl
    (fun f fn hf hfn => by
      obtain rfl : f = 3 := Option.some.inj ((show Tryd.prog.funcNamed "transhumance/transhumancelaw5.BraceMany" = some 3 by kernel_rfl).symm.trans hf) |>.symm
      obtain rfl : fn = Tryd.f3 := (Option.some.inj (Tryd.func3.symm.trans hfn)).symm
      exact ⟨by kernel_rfl, fun j t ht => by
        rw [Tryd.params3] at ht
        have hm : t ∈ ([3] : List TypeId) := by simpa using Array.mem_of_getElem? ht
        have hall : (([3] : List TypeId).all fun u => !Tryd.prog.wantsStandIn u) = true := by kernel_rfl
        exact (show Tryd.prog.wantsStandIn t = false by simpa using List.all_eq_true.1 hall t hm)⟩)
    (by kernel_rfl)

end Go.Proofs.YtnmmhihfnphjeaaDoor.braceMany
