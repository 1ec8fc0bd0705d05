/-
  The walk of BraceLong.
  BraceLong: eight thousand bytes may be, one more may not: for every input the law answers true, and its arguments read afterwards as before. Condition: the library's variables as the program's text lays them (the card's tie).
-/
import Derived.Test.YtnmmhihfnphjeaaDoorG24
import Derived.Test.YtnmmhihfnphjeaaDoorTie
import Derived.Test.YtnmmhihfnphjeaaDoorCards
import Derived.Test.YtnmmhihfnphjeaaDoorG03
import Derived.ProofKit
import Derived.OpenShut
import Derived.ShutString
import Derived.LaidMore
import Derived.Lay
import Derived.SevenTiedAt
import Derived.Stop.Joined

namespace Go.Proofs.YtnmmhihfnphjeaaDoor.braceLong
set_option linter.unusedSimpArgs false
set_option linter.unusedVariables false
open Go.RowKit Go.Vr Go.Sort Go.Tx Go.Lib
open Go.Br hiding Bs
open Go.Proofs.YtnmmhihfnphjeaaDoor.B
open Go.Proofs.YtnmmhihfnphjeaaDoor.W (plc)
attribute [local go_sem] setCellDrewN allocDrewN

def aT (m : Nat) : Bs := List.replicate m 97
def qT (m : Nat) : Bs := 34 :: (aT m ++ [34])
def bT (m : Nat) : Bs := [123, 125] ++ List.replicate m 32
theorem escs_a : ∀ m, escs (aT m) = aT m
  | 0 => rfl
  | m + 1 => by
    show esc1 97 ++ escs (aT m) = _
    rw [escs_a m]
    rfl
theorem quote_a (m : Nat) : quote (aT m) = qT m := by unfold quote qT; rw [escs_a]
theorem plain_a (m : Nat) : plain (aT m) = true := by
  unfold plain aT
  simp
  exact .inr (by decide)
theorem qT_len (m : Nat) : (qT m).length = m + 2 := by unfold qT aT; simp
theorem bT_len (m : Nat) : (bT m).length = m + 2 := by unfold bT; simp
theorem q_ok (m : Nat) (h : m + 2 ≤ 8000) : parseM (qT m) = .inl (Sum.inl (.inl (aT m))) := by
  have := parse_text (Sum.inl (.inl (aT m))) (plain_a m) (by show (quote (aT m)).length ≤ 8000; rw [quote_a, qT_len]; exact h)
  rw [show textV 8 (Sum.inl (.inl (aT m))) = quote (aT m) from rfl, quote_a] at this
  exact this
theorem q_bad (m : Nat) (h : 8000 < m + 2) : parseM (qT m) = .inr (2, 0) := by unfold parseM; rw [if_pos (by rw [qT_len]; exact h)]
theorem skip_b : ∀ m : Nat, skip (List.replicate m 32) = []
  | 0 => rfl
  | m + 1 => by
    have h := skip_blk [32] (List.replicate m 32) (by rfl)
    rw [skip_b m] at h
    exact h
theorem b_ok (m : Nat) (h : m + 2 ≤ 8000) : locksM (bT m) = .inl [] := by
  have hv := val_read 8 (Sum.inr (Sum.inr [])) [123, 125] [] (List.replicate m 32) ⟨by simp, by simp⟩ ⟨[], [], [], rfl, rfl, rfl, rfl⟩ rfl (by
    cases m with
    | zero => exact safe_nil
    | succ m => exact safe_cons (by decide))
  rw [List.nil_append, skip_b] at hv
  have hp : parseM (bT m) = .inl (Sum.inr (Sum.inr [])) := by
    unfold parseM
    rw [if_neg (by rw [bT_len]; omega)]
    show (match valM 8 ([123, 125] ++ List.replicate m 32) with | .inr (e, q) => _ | .inl (v, []) => _ | .inl (_, q) => _) = _
    rw [hv]
  unfold locksM
  rw [hp]
  rfl
theorem b_bad (m : Nat) (h : 8000 < m + 2) : locksM (bT m) = .inr (2, 0) := by
  have hp : parseM (bT m) = .inr (2, 0) := by unfold parseM; rw [if_pos (by rw [bT_len]; exact h)]
  unfold locksM
  rw [hp]

set_option maxHeartbeats 16000000 in
set_option maxRecDepth 100000 in
theorem walk (a0 : Int) (w : World) (he : Env w) (h0 : -9223372036854775808 ≤ a0 ∧ a0 ≤ 9223372036854775807) :
    Calls Tryd.prog 6 #[.int .i64 a0] w fun e w' => e = .returned (.bool true) ∧ Below w.heap.size w w' := by
  have CK := hide (known_any w he)
  have HE := hide he
  clear he
  go_enter Tryd.func6, Tryd.ntmps6
  go_wp2_with fail
  refine CK.out.mono ?_
  rintro e w1 ⟨rfl, b1⟩
  go_wp2_with fail
  refine (within5_nat _ _ _ (by omega) (by omega) (by omega) (by omega)).mono ?_
  rintro e w2 ⟨j, rfl, hj, -, rfl⟩
  have HJ : Hid (j < 10) := by show _ < _; omega
  have HB1 := hide b1
  obtain ⟨K, hK⟩ : ∃ K : Nat, K = 7995 + j := ⟨_, rfl⟩
  obtain ⟨m, hm⟩ : ∃ m : Nat, m + 2 = K := ⟨K - 2, by omega⟩
  have w35 : wrap64 (7995 + (j : Int)) = (K : Int) := by unfold wrap64; omega
  have w36 : wrap64 ((K : Int) - 2) = (m : Int) := by unfold wrap64; omega
  have hm1 : m ≤ 8010 := by omega
  have hmk := made m w2 (by omega)
  have HK := hide hK
  have HM := hide hm
  have Hm := hide hm1
  clear hj b1 CK h0 hK hm hm1
  go_wp2_with fail
  have HB2 := hide (HB1.out.trans ((show Below w2.heap.size w2 (w2.alloc (.cells (madeCells #[.int .u8 0] m) 5)) from (by repeat (first | with_reducible assumption | with_reducible exact Below.refl _ _ | with_reducible refine Below.setCell ?_ (by first | exact Nat.le_refl _ | (simp; done) | (simp; omega)) _ | with_reducible refine bal ?_ _ | with_reducible refine Below.alloc ?_ (by first | exact Nat.le_refl _ | (simp; done) | (simp; omega)) _ | with_reducible refine Below.drew ?_))).mono HB1.out.size))
  have HR0 := hide (row_made w2 m (by have := Hm.out; omega))
  have HF0 := hide (fun j => (Box.new w2 (madeCells #[.int .u8 0] m) 5).f j)
  have hsz2 := hide HB1.out.size
  clear hmk
  generalize w2.alloc (.cells (madeCells #[.int .u8 0] m) 5) = W0 at *
  simp only [w35, w36]
  go_loopw [5] (fun i wr => ∃ k : Nat, k ≤ m ∧ i = .int .i64 k ∧ Hid (Row .u8 wr (some ⟨w2.heap.size, 0, none⟩) m m (fillR m k 97)) ∧ Hid (∀ j, wr.frozen? ⟨w2.heap.size, j, none⟩ = false) ∧ Hid (Below w.heap.size w wr)) (fun i _ => m - (RowKit.intOf i).toNat)
  case atStart => exact ⟨0, Nat.zero_le _, rfl, HR0, HF0, HB2⟩
  case round =>
    obtain ⟨k, hkn, rfl, HR, HF, HB⟩ := hrel
    clear HR0 HF0 HB2
    by_cases hlt : k < m
    · have hc := HR.out.cell _ rfl k hlt
      rw [addr_add, Nat.zero_add] at hc
      have hf := HF.out k
      have i1 : (k : Int) < (m : Int) := by omega
      have i0 : (0 : Int) ≤ (k : Int) := by omega
      have HKW : Hid (wrap64 ((k : Int) + 1) = ((k + 1 : Nat) : Int)) := by show _ = _; have := Hm.out; unfold wrap64; omega
      have hp := HR.out.put k hlt 97 (by decide)
      rw [fillR_next m k 97 hlt] at hp
      have HP := hide hp
      have HFP : Hid (∀ j, (wr.setCell ⟨w2.heap.size, k, none⟩ (.int .u8 97)).frozen? ⟨w2.heap.size, j, none⟩ = false) := fun j => by rw [World.frozen?_setCell]; exact HF.out j
      have HBP := hide (HB.out.setCell (show w.heap.size ≤ (⟨w2.heap.size, k, none⟩ : Addr).block from hsz2.out) (.int .u8 97))
      have hlt' := hide hlt
      clear hp hlt hkn
      go_wp2_with fail
      go_roundw
      case rel => exact ⟨k + 1, by have := hlt'.out; omega, (by first | exact congrArg (Value.int .i64) HKW.out | rfl), HP, HFP, HBP⟩
      case measure => exact measB (by first | exact HKW.out | rfl) hlt'.out
    · obtain rfl : k = m := by omega
      have hcv := HR.out.conv
      rw [fillR_all, show (97 : Int) = ((97 : UInt8).toNat : Int) from rfl, fill_str] at hcv
      have i2 : ¬ ((k : Int) < (k : Int)) := by omega
      have n1 : ¬ 9223372036854775807 < 1 + (str (List.replicate k 97)).size := by rw [str_size, List.length_replicate]; have := Hm.out; omega
      have n2 : ¬ 9223372036854775807 < 1 + (str (List.replicate k 97)).size + 1 := by rw [str_size, List.length_replicate]; have := Hm.out; omega
      have ex : (ByteArray.mk #[34] ++ str (List.replicate k 97)) ++ ByteArray.mk #[34] = str (qT k) := by
        show (str [34] ++ str (aT k)) ++ str [34] = _
        rw [str_app, str_app]; rfl
      have CP := hide (fun W => parse_any (str (qT k)) W (by rw [str_size, qT_len]; have := Hm.out; omega))
      simp only [str_list] at CP
      have CB := hide (fun W => blanks_any k W (by have := Hm.out; omega))
      have CL := hide (fun W hW => locks_any (str (bT k)) W (by rw [str_size, bT_len]; have := Hm.out; omega) hW)
      simp only [str_list] at CL
      have n3 : ¬ 9223372036854775807 < 2 + (str (List.replicate k 32)).size := by rw [str_size, List.length_replicate]; have := Hm.out; omega
      have ey : ByteArray.mk #[123, 125] ++ str (List.replicate k 32) = str (bT k) := str_app [123, 125] _
      have hkm : (K : Int) - 2 = (k : Int) := by have := HM.out; omega
      have w37 : wrap64 (k : Int) = (k : Int) := by have := Hm.out; unfold wrap64; omega
      clear hlt hkn w35
      by_cases h8 : 8000 < k + 2
      · have k8 : (K : Int) > 8000 := by have := HM.out; omega
        rw [q_bad k h8] at CP
        rw [b_bad k h8] at CL
        clear h8
        go_wp2_with fail
        refine (CP.out _).mono ?_
        rintro e w3 ⟨b3, -, hm3⟩
        obtain rfl : e = .returned (.tuple #[SV.zero.val, .agg #[.int .i64 1, .int .i64 1], .int .i64 2]) := hm3
        have hb5 : Below w3.heap.size w3 ((w3.alloc (.cells SV.zero.cells 39)).alloc (.cells #[.int .i64 1, .int .i64 1] 29)) := (by repeat (first | with_reducible assumption | with_reducible exact Below.refl _ _ | with_reducible refine Below.setCell ?_ (by first | exact Nat.le_refl _ | (simp; done) | (simp; omega)) _ | with_reducible refine bal ?_ _ | with_reducible refine Below.alloc ?_ (by first | exact Nat.le_refl _ | (simp; done) | (simp; omega)) _ | with_reducible refine Below.drew ?_))
        have HB5 := hide (HB.out.trans ((b3.trans (hb5.mono b3.size)).mono HB.out.size))
        have px := Box.new (w3.alloc (.cells SV.zero.cells 39)) #[.int .i64 1, .int .i64 1] 29
        rw [show (w3.alloc (.cells SV.zero.cells 39)).heap.size = w3.heap.size + 1 by simp] at px
        have PX := hide px
        clear b3 hb5 CP px
        go_wp2_with fail
        generalize (w3.alloc (.cells SV.zero.cells 39)).alloc (.cells #[.int .i64 1, .int .i64 1] 29) = W5 at *
        refine (CB.out _).mono ?_
        rintro e w6 ⟨rfl, b6⟩
        have HB6 := hide (HB5.out.trans (b6.mono HB5.out.size))
        have PX6 := hide (PX.out.later b6)
        clear b6 CB PX
        go_wp2_with fail
        refine (CL.out _ (HE.out.later HB6.out)).mono ?_
        rintro e w7 ⟨b7, -, hm7⟩
        obtain rfl : e = .returned (.tuple #[.slice none 0 0, .agg #[.int .i64 1, .int .i64 1], .int .i64 2]) := hm7
        have hb8 : Below w7.heap.size w7 (w7.alloc (.cells #[.int .i64 1, .int .i64 1] 29)) := (by repeat (first | with_reducible assumption | with_reducible exact Below.refl _ _ | with_reducible refine Below.setCell ?_ (by first | exact Nat.le_refl _ | (simp; done) | (simp; omega)) _ | with_reducible refine bal ?_ _ | with_reducible refine Below.alloc ?_ (by first | exact Nat.le_refl _ | (simp; done) | (simp; omega)) _ | with_reducible refine Below.drew ?_))
        have HB8 := hide (HB6.out.trans ((b7.trans (hb8.mono b7.size)).mono HB6.out.size))
        have p8 := ((PX6.out.later b7).later hb8).c
        have q8 := (Box.new w7 #[.int .i64 1, .int .i64 1] 29).c
        clear b7 hb8 CL PX6
        go_wp2_with fail
        go_ret
        exact ⟨by first | rfl | simp, HB8.out⟩
      · have k8 : ¬ (K : Int) > 8000 := by have := HM.out; omega
        rw [q_ok k (by omega)] at CP
        rw [b_ok k (by omega)] at CL
        clear h8
        go_wp2_with fail
        refine (CP.out _).mono ?_
        rintro e w3 ⟨b3, v, rfl, hv⟩
        obtain rfl : v = leafSV (.inl (aT k)) := hv
        have hb5 : Below w3.heap.size w3 ((w3.alloc (.cells (leafSV (.inl (aT k))).cells 39)).alloc (.cells #[.int .i64 0, .int .i64 0] 29)) := (by repeat (first | with_reducible assumption | with_reducible exact Below.refl _ _ | with_reducible refine Below.setCell ?_ (by first | exact Nat.le_refl _ | (simp; done) | (simp; omega)) _ | with_reducible refine bal ?_ _ | with_reducible refine Below.alloc ?_ (by first | exact Nat.le_refl _ | (simp; done) | (simp; omega)) _ | with_reducible refine Below.drew ?_))
        have HB5 := hide (HB.out.trans ((b3.trans (hb5.mono b3.size)).mono HB.out.size))
        have VX := hide ((Box.new w3 (leafSV (.inl (aT k))).cells 39).alloc (.cells #[.int .i64 0, .int .i64 0] 29))
        clear b3 hb5 CP
        go_wp2_with fail
        generalize (w3.alloc (.cells (leafSV (.inl (aT k))).cells 39)).alloc (.cells #[.int .i64 0, .int .i64 0] 29) = W5 at *
        refine (CB.out _).mono ?_
        rintro e w6 ⟨rfl, b6⟩
        have HB6 := hide (HB5.out.trans (b6.mono HB5.out.size))
        have VX6 := hide (VX.out.later b6)
        clear b6 CB VX
        go_wp2_with fail
        refine (CL.out _ (HE.out.later HB6.out)).mono ?_
        rintro e w7 ⟨b7, v', rfl, ho⟩
        obtain ⟨oa, oc, rfl, -, -, -⟩ := ho.any
        have hb8 : Below w7.heap.size w7 (w7.alloc (.cells #[.int .i64 0, .int .i64 0] 29)) := (by repeat (first | with_reducible assumption | with_reducible exact Below.refl _ _ | with_reducible refine Below.setCell ?_ (by first | exact Nat.le_refl _ | (simp; done) | (simp; omega)) _ | with_reducible refine bal ?_ _ | with_reducible refine Below.alloc ?_ (by first | exact Nat.le_refl _ | (simp; done) | (simp; omega)) _ | with_reducible refine Below.drew ?_))
        have HB8 := hide (HB6.out.trans ((b7.trans (hb8.mono b7.size)).mono HB6.out.size))
        have v8 := ((VX6.out.later b7).later hb8).c 2
        have q8 := (Box.new w7 #[.int .i64 0, .int .i64 0] 29).c
        have hsz : (((str (aT k)).size : Nat) : Int) = (k : Int) := by rw [str_size]; unfold aT; rw [List.length_replicate]
        clear b7 ho hb8 CL VX6
        go_wp2_with fail
        go_ret
        exact ⟨by first | rfl | simp, HB8.out⟩

end Go.Proofs.YtnmmhihfnphjeaaDoor.braceLong

namespace Go.Proofs.YtnmmhihfnphjeaaDoor.braceLong
open Go.ChangeShapes Go.WideShapes Go.ChangeAt Go.RowKit
open Go.ChangeMaps (open_string shut_string)
set_option linter.unusedVariables false

theorem own : ownKnob Tryd.prog.godebug = none := by kernel_rfl
theorem laidOut : laidOutB Tryd.prog = true := by kernel_rfl

set_option maxRecDepth 100000 in
theorem lifted (os : Os) (started : os.Started) (H : Type) (enc : TypeId × Value → H) :
    ReturnsInHanded {} Tryd.checked os 6 .any (fun w args => (Rows.braceLongSpec.pre enc Tryd.prog Tryd.f6 Rows.braceLongRow.domain false w args ∧ laidMetH Tryd.prog Rows.braceLongRow.laid w) ∧ sizedMet enc Tryd.prog Tryd.f6 (OpenSpec.ofChange Rows.braceLongSpec) false w args) (Rows.braceLongSpec.post enc Tryd.prog Tryd.f6 false true false false) := by
  refine handed_laid_shaped (C := Tryd.checked) (laid := Rows.braceLongRow.laid) own started (by kernel_rfl) Tryd.func6
    (ChangeSpec.witness_shaped (enc := enc) (C := Tryd.checked) (os := os) (X := fun w _ => laidMetH Tryd.prog Rows.braceLongRow.laid w) false (World.laidAll Tryd.prog os Rows.braceLongRow.laid) #[.int .i64 0] 8 (World.laidAll_os _ _ _)
      (World.shaped_of_ZipB (by kernel_rfl) (by kernel_rfl)) (by kernel_rfl) (by kernel_rfl) (by kernel_rfl)
      (by rw [MakeChecks.laidMetH_plain _ _ _ (by kernel_rfl)]; exact laidMet_laidAll _ (by kernel_rfl) (by kernel_rfl))) ?_
  intro W base args ds gs before hval0 hW hsz0 hL hS
  have hE : Env W := env_of hL hS
  have hval : ∀ (j : Nat) t v, Tryd.f6.params[j]? = some t → args[j]? = some v → Value.okWide Tryd.prog W .any base t v := hval0
  have hW' := hW
  obtain ⟨p, q, hA0, hV, rfl, hfz, hnd⟩ := hW
  have hA : DataW.TrodAll enc Tryd.prog W 0 (fun _ => true) true Tryd.f6.params.toList args.toList ds p := hA0
  rw [Tryd.params6] at hA hval
  obtain ⟨v0, vs0, d0, ds0, p0, q0, hargs, rfl, rfl, h0, r0⟩ := trodAll_cons hA
  obtain ⟨rfl, rfl, rfl⟩ := trodAll_nil r0
  obtain rfl : args = #[v0] := by cases args; simp_all
  obtain ⟨rfl, rfl⟩ := trodVars_none hV
  obtain ⟨a0, rfl, rfl, rfl, w0⟩ := open_int Tryd.underlying3 (hval 0 3 v0 rfl rfl) h0
  clear hA0 hval0
  refine (walk a0 W hE (Go.bounds_i64 w0)).mono fun e W' ⟨he, bel⟩ => ?_
  subst he
  exact ⟨_, rfl, _, _, _, [], _, [], hW', trodAll_mk1 (shut_bool Tryd.underlying4 _), (trodAll_cons_mk (shut_int Tryd.underlying3 w0) trodAll_mk0), rfl, bel.frame _, fun h => by cases h⟩

theorem holds : Rows.BraceLongSaid :=
  OpenClaim.holds_of_wide 6 Tryd.f6 rfl rfl rfl rfl rfl rfl rfl ⟨rfl, rfl, rfl, rfl, rfl⟩ rfl rfl rfl rfl rfl (by kernel_rfl) Tryd.func6 (by kernel_rfl)
    (of_decide_eq_true (by kernel_rfl)) (by unfold Func.isWrapper; first | (rw [if_pos (by decide +kernel)]; kernel_rfl) | (rw [if_neg (by decide +kernel)]; exact ⟨rfl, rfl⟩))
    (fun os started H enc _ => lifted os started H enc)

theorem proved : Rows.BraceLongCardSaid :=
  Claim7.holds_tied_plain_at .later [] [.data, .data, .data] true (true, "e323d31132a6c551f96687f22eecae2d309949f0e19ca470e38e58611d6274b5") false holds (fun _ h => by cases h) (by kernel_rfl) (fun _ h => by cases h) braceLong_row_tie rfl ⟨rfl, rfl⟩ (by kernel_rfl) rfl
    (fun f fn hf hfn => by
      obtain rfl : f = 6 := Option.some.inj ((show Tryd.prog.funcNamed "transhumance/transhumancelaw5.BraceLong" = some 6 by kernel_rfl).symm.trans hf) |>.symm
      obtain rfl : fn = Tryd.f6 := (Option.some.inj (Tryd.func6.symm.trans hfn)).symm
      exact ⟨by kernel_rfl, fun j t ht => by
        rw [Tryd.params6] at ht
        have hm : t ∈ ([3] : List TypeId) := by simpa using Array.mem_of_getElem? ht
        have hall : (([3] : List TypeId).all fun u => !Tryd.prog.wantsStandIn u) = true := by kernel_rfl
        exact (show Tryd.prog.wantsStandIn t = false by simpa using List.all_eq_true.1 hall t hm)⟩)
    (by kernel_rfl)

end Go.Proofs.YtnmmhihfnphjeaaDoor.braceLong
