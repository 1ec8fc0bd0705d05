/-
  The walk of BraceLocks.
  BraceLocks: any locks are written as the document says, and read as they were: for every input the law answers true, and its arguments read afterwards as before. Condition: the library's variables as the program's text lays them (the card's tie).
-/
import Derived.Test.YtnmmhihfnphjeaaGreatDoorG35
import Derived.Test.YtnmmhihfnphjeaaGreatDoorTie
import Derived.Test.YtnmmhihfnphjeaaGreatDoorCards
import Derived.Test.YtnmmhihfnphjeaaGreatDoorG11
import Derived.ProofKit
import Derived.OpenShut
import Derived.ShutString
import Derived.LaidMore
import Derived.Lay
import Derived.SevenTiedAt
import Derived.Stop.Joined

namespace Go.Proofs.YtnmmhihfnphjeaaGreatDoor.braceLocks
set_option linter.unusedSimpArgs false
set_option linter.unusedVariables false
open Go.RowKit Go.Vr Go.Sort Go.Tx Go.Lib
open Go.Br hiding Bs
open Go.Proofs.YtnmmhihfnphjeaaGreatDoor.B
open Go.Proofs.YtnmmhihfnphjeaaGreatDoor.W (plc)
attribute [local go_sem] setCellDrewN allocDrewN

theorem flat_le (B : Nat) : ∀ ts : List (List UInt8), (∀ t ∈ ts, t.length ≤ B) → (ts.flatMap fun y => 44 :: y).length ≤ (B + 1) * ts.length
  | [], _ => by simp
  | t :: r, h => by
    have h1 := h t (List.mem_cons_self ..)
    have h2 := flat_le B r fun x hx => h x (List.mem_cons_of_mem _ hx)
    rw [List.flatMap_cons, List.length_append, List.length_cons, List.length_cons, Nat.mul_add]
    omega
theorem cjoin_le (B : Nat) (ts : List (List UInt8)) (h : ∀ t ∈ ts, t.length ≤ B) : (cjoin ts).length ≤ (B + 1) * ts.length := by
  cases ts with
  | nil => simp [cjoin]
  | cons t r =>
    have h1 := h t (List.mem_cons_self ..)
    have h2 := flat_le B r fun x hx => h x (List.mem_cons_of_mem _ hx)
    show (t ++ r.flatMap fun y => 44 :: y).length ≤ _
    rw [List.length_append, List.length_cons, Nat.mul_add]
    omega
theorem lockT_le (x : Lk) (h : okX x) : (lockT x).length ≤ 1200 := by
  obtain ⟨l0, l1, l2, l3, l4⟩ := h.len
  have hf : ∀ f ∈ hereL x, (fT f).length ≤ 190 := by
    intro f hf
    have hm := (List.mem_filter.1 hf).1
    simp only [fieldsL, List.mem_cons, List.not_mem_nil, or_false] at hm
    have key : ∀ k s : List UInt8, k.length ≤ 10 → s.length ≤ 80 → (fT (k, s)).length ≤ 190 := fun k s hk hs => by
      have := quote_le k
      have := quote_le s
      unfold fT
      simp only [List.length_append, List.length_cons]
      omega
    rcases hm with rfl | rfl | rfl | rfl | rfl
    · exact key _ _ (by decide) l0
    · exact key _ _ (by decide) l2
    · exact key _ _ (by decide) l1
    · exact key _ _ (by decide) l3
    · exact key _ _ (by decide) l4
  have h1 := cjoin_le 190 ((hereL x).map fT) (fun t ht => by obtain ⟨f, hm, rfl⟩ := List.mem_map.1 ht; exact hf f hm)
  have h2 : (hereL x).length ≤ 5 := List.length_filter_le ..
  rw [List.length_map] at h1
  unfold lockT
  simp only [List.length_cons, List.length_append, List.length_nil]
  have : (190 + 1) * (hereL x).length ≤ 191 * 5 := Nat.mul_le_mul (Nat.le_refl _) h2
  omega
theorem writeM_le (ls : List Lk) (h : ∀ x ∈ ls, okX x) (hn : ls.length ≤ 45) : (writeM ls).length ≤ 60000 := by
  have h1 := cjoin_le 1200 (ls.map lockT) (fun t ht => by obtain ⟨x, hm, rfl⟩ := List.mem_map.1 ht; exact lockT_le x (h x hm))
  rw [List.length_map] at h1
  have h2 : (1200 + 1) * ls.length ≤ 1201 * 45 := Nat.mul_le_mul (Nat.le_refl _) hn
  rw [writeM_is]
  simp only [List.length_append, List.length_cons, List.length_nil]
  have : hdW.length = 10 := rfl
  omega
theorem back (ls : List Lk) (h : ∀ x ∈ ls, okX x) (hn : ls.length ≤ 40) (hd : (ls.map Lk.root).Nodup) : locksM (writeM ls) = if 8000 < (writeM ls).length then .inr (2, 0) else .inl ls := by
  by_cases hl : 8000 < (writeM ls).length
  · rw [if_pos hl]
    have hp : parseM (writeM ls) = .inr (2, 0) := by unfold parseM; rw [if_pos hl]
    unfold locksM
    rw [hp]
  · rw [if_neg hl, locks_write ls (fun x hx => (h x hx).pl) (by omega)]
    have hf := faultG_ok ls [] (fun x hx => (h x hx).own) (by simpa using hd)
    unfold faultM
    rw [hf, List.length_nil, Nat.zero_add, if_neg (show ¬ 40 < ls.length by omega)]
    rfl

/-- Behind the making: from a row of locks on. -/
structure Good (ls : List Lk) : Prop where
  ok : ∀ x ∈ ls, okX x
  nd : (ls.map Lk.root).Nodup
  le : ls.length ≤ 40
theorem Good.take {ls : List Lk} (h1 : ∀ x ∈ ls, okX x) (h2 : (ls.map Lk.root).Nodup) : Good (ls.take 40) :=
  ⟨fun x hx => h1 x (List.mem_of_mem_take hx), by rw [List.map_take]; exact h2.sublist (List.take_sublist ..), by rw [List.length_take]; omega⟩

set_option maxHeartbeats 16000000 in
set_option maxRecDepth 100000 in
theorem walk (a0 : Option Addr) (len0 cap0 : Nat) (z0 : List Int) (a1 : Option Addr) (len1 cap1 : Nat) (z1 : List Int) (w : World) (he : Env w) (w0 : IsRow .i64 w a0 len0 cap0 z0) (w1 : IsRow .u8 w a1 len1 cap1 z1) :
    Calls Tryz.prog 4 #[.slice a0 len0 cap0, .slice a1 len1 cap1] w fun e w' => e = .returned (.bool true) ∧ Below w.heap.size w w' := by
  have CK := hide (known5_any w he)
  have HE := hide he
  have HR0 := hide w0.row
  have HR1 := hide w1.row
  clear he w0 w1
  go_enter Tryz.func4, Tryz.ntmps4
  go_wp2_with fail
  refine CK.out.mono ?_
  rintro e v1 ⟨rfl, b1⟩
  have HB1 := hide b1
  have CL := hide (locks5_any a0 len0 cap0 _ a1 len1 cap1 _ v1 (HR0.out.later b1) (HR1.out.later b1))
  clear b1 CK HR0 HR1
  by_cases h60 : 60 < len1
  · have d60 : (len1 : Int) > 60 := by omega
    clear h60
    go_wp2_with fail
    go_ret
    exact ⟨rfl, HB1.out⟩
  have d60 : ¬ (len1 : Int) > 60 := by omega
  clear h60
  go_wp2_with fail
  refine CL.out.mono ?_
  rintro e v2 ⟨v', ls, rfl, ho, hok, hnd, hln, b2⟩
  have HB2 := hide (HB1.out.trans (b2.mono HB1.out.size))
  by_cases h40 : 40 < ls.length
  · obtain ⟨g, oc, rfl, hoc, hrow⟩ : ∃ g cap, v' = .slice (some ⟨g, 0, none⟩) ls.length cap ∧ ls.length ≤ cap ∧ ERow ELk v2 (some ⟨g, 0, none⟩) ls.length ls := by
      rcases ho.form with ⟨_, h⟩ | ⟨g, cap, e, _, _, h1, _, h⟩
      · rw [h] at h40; simp at h40
      · exact ⟨g, cap, e, h1, h⟩
    have HG := hide (Good.take hok hnd)
    have HRW := hide (hrow.pre 40 (by omega))
    have d40 : (ls.length : Int) > 40 := by omega
    have c40 : (40 : Int) ≤ (oc : Int) := by omega
    have HNN : Hid (40 ≤ 40) := Nat.le_refl _
    obtain ⟨LS, hLS⟩ : ∃ LS, LS = ls.take 40 := ⟨_, rfl⟩
    rw [← hLS] at HG HRW
    clear hLS ho hok hnd hln hrow hoc b2 CL h40
    have hwl := writeM_le LS HG.out.ok (by have := HG.out.le; omega)
    have hbk := back LS HG.out.ok HG.out.le HG.out.nd
    have CW := hide (write_any (some ⟨g, 0, none⟩) 40 oc LS v2 HRW.out (by have := HNN.out; omega) (HE.out.later HB2.out) (fun x hx => (HG.out.ok x hx).pl) (by omega))
    have CR := hide (fun W (hW : Below v2.heap.size v2 W) => rwrite_any (some ⟨g, 0, none⟩) 40 oc LS W (HRW.out.later hW) (by have := HNN.out; omega) HG.out.ok)
    have CK := hide (fun W hW => locks_any (str (writeM LS)) W (by rw [str_size]; omega) hW)
    simp only [str_list, hbk] at CK
    have hsz : (((str (writeM LS)).size : Nat) : Int) = ((writeM LS).length : Nat) := by rw [str_size]
    have HWL := hide hwl
    generalize writeM LS = tx at *
    clear hwl hbk
    go_wp2_with fail
    refine CW.out.mono ?_
    rintro e v3 ⟨rfl, b3⟩
    have HB3 := hide (HB2.out.trans (b3.mono HB2.out.size))
    have H23 := hide b3
    clear b3 CW
    go_wp2_with fail
    refine (CK.out v3 (HE.out.later HB3.out)).mono ?_
    rintro e v4 ⟨b4, hm⟩
    have HB4 := hide (HB3.out.trans (b4.mono HB3.out.size))
    have H24 := hide (H23.out.trans (b4.mono H23.out.size))
    clear b4 CK
    by_cases h8 : 8000 < tx.length
    · rw [if_pos h8] at hm
      obtain ⟨-, hm⟩ := hm
      obtain rfl : e = .returned (.tuple #[.slice none 0 0, .agg #[.int .i64 1, .int .i64 1], .int .i64 2]) := hm
      have k8 : ((tx.length : Nat) : Int) > 8000 := by omega
      have hb5 : Below v4.heap.size v4 (v4.alloc (.cells #[.int .i64 1, .int .i64 1] 32)) := (by repeat (first | with_reducible assumption | with_reducible exact Below.refl _ _ | with_reducible refine Below.setCell ?_ (by first | exact Nat.le_refl _ | (simp; done) | (simp; omega)) _ | with_reducible refine bal ?_ _ | with_reducible refine Below.alloc ?_ (by first | exact Nat.le_refl _ | (simp; done) | (simp; omega)) _ | with_reducible refine Below.drew ?_))
      have HB5 := hide (HB4.out.trans (hb5.mono HB4.out.size))
      have H25 := hide (H24.out.trans (hb5.mono H24.out.size))
      clear hb5 h8
      go_wp2_with fail
      refine (CR.out _ H25.out).mono ?_
      rintro e v6 ⟨rfl, b6⟩
      have HB6 := hide (HB5.out.trans (b6.mono HB5.out.size))
      clear b6 CR
      go_wp2_with fail
      go_ret
      exact ⟨by first | rfl | simp, HB6.out⟩
    · rw [if_neg h8] at hm
      obtain ⟨vv, rfl, hov⟩ := hm
      obtain ⟨va, vc, rfl, -, -, hrv⟩ := hov.any
      have hLn : LS.length = 40 := HRW.out.n
      rw [hLn] at hrv ⊢
      have k8 : ¬ ((tx.length : Nat) : Int) > 8000 := by omega
      have hb5 : Below v4.heap.size v4 (v4.alloc (.cells #[.int .i64 0, .int .i64 0] 32)) := (by repeat (first | with_reducible assumption | with_reducible exact Below.refl _ _ | with_reducible refine Below.setCell ?_ (by first | exact Nat.le_refl _ | (simp; done) | (simp; omega)) _ | with_reducible refine bal ?_ _ | with_reducible refine Below.alloc ?_ (by first | exact Nat.le_refl _ | (simp; done) | (simp; omega)) _ | with_reducible refine Below.drew ?_))
      have HB5 := hide (HB4.out.trans (hb5.mono HB4.out.size))
      have H25 := hide (H24.out.trans (hb5.mono H24.out.size))
      have HRV := hide (hrv.later hb5)
      have hq := (Box.new v4 #[.int .i64 0, .int .i64 0] 32)
      have HQ := hide hq
      have CS := hide (fun W (h1 : Below (v4.alloc (.cells #[.int .i64 0, .int .i64 0] 32)).heap.size (v4.alloc (.cells #[.int .i64 0, .int .i64 0] 32)) W) => rows_same (some ⟨g, 0, none⟩) va 40 oc vc LS W ((HRW.out.later H25.out).later h1) (HRV.out.later h1) (by have := HNN.out; omega))
      clear hb5 h8 hov hrv hq hLn
      go_wp2_with fail
      refine (CR.out _ H25.out).mono ?_
      rintro e v6 ⟨rfl, b6⟩
      have HB6 := hide (HB5.out.trans (b6.mono HB5.out.size))
      have CS6 := hide (CS.out v6 b6)
      have qc := (HQ.out.later b6).c
      clear b6 CR CS
      go_wp2_with fail
      refine CS6.out.mono ?_
      rintro e v7 ⟨rfl, b7⟩
      have HB7 := hide (HB6.out.trans (b7.mono HB6.out.size))
      clear b7 CS6 qc
      go_wp2_with fail
      go_ret
      exact ⟨by first | rfl | simp, HB7.out⟩
  · obtain ⟨oa, oc, rfl, hoc, hom, hrow⟩ := ho.any
    have HG : Hid (Good ls) := ⟨hok, hnd, by omega⟩
    have HRW := hide hrow
    have d40 : ¬ (ls.length : Int) > 40 := by omega
    have hNN : ls.length ≤ 40 := by omega
    obtain ⟨m, hm⟩ : ∃ m, m = ls.length := ⟨_, rfl⟩
    rw [← hm] at HRW d40 hNN ⊢
    have HNN : Hid (m ≤ 40) := hNN
    clear hm ho hok hnd hln hrow hoc hom b2 CL h40 hNN
    have hwl := writeM_le ls HG.out.ok (by have := HG.out.le; omega)
    have hbk := back ls HG.out.ok HG.out.le HG.out.nd
    have CW := hide (write_any oa m oc ls v2 HRW.out (by have := HNN.out; omega) (HE.out.later HB2.out) (fun x hx => (HG.out.ok x hx).pl) (by omega))
    have CR := hide (fun W (hW : Below v2.heap.size v2 W) => rwrite_any oa m oc ls W (HRW.out.later hW) (by have := HNN.out; omega) HG.out.ok)
    have CK := hide (fun W hW => locks_any (str (writeM ls)) W (by rw [str_size]; omega) hW)
    simp only [str_list, hbk] at CK
    have hsz : (((str (writeM ls)).size : Nat) : Int) = ((writeM ls).length : Nat) := by rw [str_size]
    have HWL := hide hwl
    generalize writeM ls = tx at *
    clear hwl hbk
    go_wp2_with fail
    refine CW.out.mono ?_
    rintro e v3 ⟨rfl, b3⟩
    have HB3 := hide (HB2.out.trans (b3.mono HB2.out.size))
    have H23 := hide b3
    clear b3 CW
    go_wp2_with fail
    refine (CK.out v3 (HE.out.later HB3.out)).mono ?_
    rintro e v4 ⟨b4, hm⟩
    have HB4 := hide (HB3.out.trans (b4.mono HB3.out.size))
    have H24 := hide (H23.out.trans (b4.mono H23.out.size))
    clear b4 CK
    by_cases h8 : 8000 < tx.length
    · rw [if_pos h8] at hm
      obtain ⟨-, hm⟩ := hm
      obtain rfl : e = .returned (.tuple #[.slice none 0 0, .agg #[.int .i64 1, .int .i64 1], .int .i64 2]) := hm
      have k8 : ((tx.length : Nat) : Int) > 8000 := by omega
      have hb5 : Below v4.heap.size v4 (v4.alloc (.cells #[.int .i64 1, .int .i64 1] 32)) := (by repeat (first | with_reducible assumption | with_reducible exact Below.refl _ _ | with_reducible refine Below.setCell ?_ (by first | exact Nat.le_refl _ | (simp; done) | (simp; omega)) _ | with_reducible refine bal ?_ _ | with_reducible refine Below.alloc ?_ (by first | exact Nat.le_refl _ | (simp; done) | (simp; omega)) _ | with_reducible refine Below.drew ?_))
      have HB5 := hide (HB4.out.trans (hb5.mono HB4.out.size))
      have H25 := hide (H24.out.trans (hb5.mono H24.out.size))
      clear hb5 h8
      go_wp2_with fail
      refine (CR.out _ H25.out).mono ?_
      rintro e v6 ⟨rfl, b6⟩
      have HB6 := hide (HB5.out.trans (b6.mono HB5.out.size))
      clear b6 CR
      go_wp2_with fail
      go_ret
      exact ⟨by first | rfl | simp, HB6.out⟩
    · rw [if_neg h8] at hm
      obtain ⟨vv, rfl, hov⟩ := hm
      obtain ⟨va, vc, rfl, -, -, hrv⟩ := hov.any
      have hLn : ls.length = m := HRW.out.n
      rw [hLn] at hrv ⊢
      have k8 : ¬ ((tx.length : Nat) : Int) > 8000 := by omega
      have hb5 : Below v4.heap.size v4 (v4.alloc (.cells #[.int .i64 0, .int .i64 0] 32)) := (by repeat (first | with_reducible assumption | with_reducible exact Below.refl _ _ | with_reducible refine Below.setCell ?_ (by first | exact Nat.le_refl _ | (simp; done) | (simp; omega)) _ | with_reducible refine bal ?_ _ | with_reducible refine Below.alloc ?_ (by first | exact Nat.le_refl _ | (simp; done) | (simp; omega)) _ | with_reducible refine Below.drew ?_))
      have HB5 := hide (HB4.out.trans (hb5.mono HB4.out.size))
      have H25 := hide (H24.out.trans (hb5.mono H24.out.size))
      have HRV := hide (hrv.later hb5)
      have hq := (Box.new v4 #[.int .i64 0, .int .i64 0] 32)
      have HQ := hide hq
      have CS := hide (fun W (h1 : Below (v4.alloc (.cells #[.int .i64 0, .int .i64 0] 32)).heap.size (v4.alloc (.cells #[.int .i64 0, .int .i64 0] 32)) W) => rows_same oa va m oc vc ls W ((HRW.out.later H25.out).later h1) (HRV.out.later h1) (by have := HNN.out; omega))
      clear hb5 h8 hov hrv hq hLn
      go_wp2_with fail
      refine (CR.out _ H25.out).mono ?_
      rintro e v6 ⟨rfl, b6⟩
      have HB6 := hide (HB5.out.trans (b6.mono HB5.out.size))
      have CS6 := hide (CS.out v6 b6)
      have qc := (HQ.out.later b6).c
      clear b6 CR CS
      go_wp2_with fail
      refine CS6.out.mono ?_
      rintro e v7 ⟨rfl, b7⟩
      have HB7 := hide (HB6.out.trans (b7.mono HB6.out.size))
      clear b7 CS6 qc
      go_wp2_with fail
      go_ret
      exact ⟨by first | rfl | simp, HB7.out⟩

end Go.Proofs.YtnmmhihfnphjeaaGreatDoor.braceLocks

namespace Go.Proofs.YtnmmhihfnphjeaaGreatDoor.braceLocks
open Go.ChangeShapes Go.WideShapes Go.ChangeAt Go.RowKit
open Go.ChangeMaps (open_string shut_string)
set_option linter.unusedVariables false

theorem own : ownKnob Tryz.prog.godebug = none := by kernel_rfl
theorem laidOut : laidOutB Tryz.prog = true := by kernel_rfl

set_option maxRecDepth 100000 in
theorem lifted (os : Os) (started : os.Started) (H : Type) (enc : TypeId × Value → H) :
    ReturnsInHanded {} Tryz.checked os 4 .any (fun w args => (Rows.braceLocksSpec.pre enc Tryz.prog Tryz.f4 Rows.braceLocksRow.domain false w args ∧ laidMetH Tryz.prog Rows.braceLocksRow.laid w) ∧ sizedMet enc Tryz.prog Tryz.f4 (OpenSpec.ofChange Rows.braceLocksSpec) false w args) (Rows.braceLocksSpec.post enc Tryz.prog Tryz.f4 false true false false) := by
  refine handed_laid_shaped (C := Tryz.checked) (laid := Rows.braceLocksRow.laid) own started (by kernel_rfl) Tryz.func4
    (ChangeSpec.witness_shaped (enc := enc) (C := Tryz.checked) (os := os) (X := fun w _ => laidMetH Tryz.prog Rows.braceLocksRow.laid w) false (World.laidAll Tryz.prog os Rows.braceLocksRow.laid) #[.slice none 0 0, .slice none 0 0] 8 (World.laidAll_os _ _ _)
      (World.shaped_of_ZipB (by kernel_rfl) (by kernel_rfl)) (by kernel_rfl) (by kernel_rfl) (by kernel_rfl)
      (by rw [MakeChecks.laidMetH_plain _ _ _ (by kernel_rfl)]; exact laidMet_laidAll _ (by kernel_rfl) (by kernel_rfl))) ?_
  intro W base args ds gs before hval0 hW hsz0 hL hS
  have hE : Env W := env_of hL hS
  have hval : ∀ (j : Nat) t v, Tryz.f4.params[j]? = some t → args[j]? = some v → Value.okWide Tryz.prog W .any base t v := hval0
  have hW' := hW
  obtain ⟨p, q, hA0, hV, rfl, hfz, hnd⟩ := hW
  have hA : DataW.TrodAll enc Tryz.prog W 0 (fun _ => true) true Tryz.f4.params.toList args.toList ds p := hA0
  rw [Tryz.params4] at hA hval
  obtain ⟨v0, vs0, d0, ds0, p0, q0, hargs, rfl, rfl, h0, r0⟩ := trodAll_cons hA
  obtain ⟨v1, vs1, d1, ds1, p1, q1, rfl, rfl, rfl, h1, r1⟩ := trodAll_cons r0
  obtain ⟨rfl, rfl, rfl⟩ := trodAll_nil r1
  obtain rfl : args = #[v0, v1] := by cases args; simp_all
  obtain ⟨rfl, rfl⟩ := trodVars_none hV
  obtain ⟨a0, len0, cap0, rfl⟩ := okWide_slice Tryz.underlying37 (hval 0 37 v0 rfl rfl)
  have k0 := h0
  have lt0 : ∀ x ∈ p0, x.block < W.heap.size := by obtain ⟨m, hm⟩ := k0; exact DataW.trod_lt m _ _ _ hm
  obtain ⟨z0, w0⟩ : ∃ zs, IsRow .i64 W a0 len0 cap0 zs := by
    obtain ⟨fuel, hf⟩ := h0
    rcases open_ints Tryz.underlying37 Tryz.underlying3 (by kernel_rfl) hf with ⟨hcs, _⟩ | ⟨x, l, c, zs, hcs, _, hl, hm, hz, _, hcell, hwz⟩
    · simp [Value.cells] at hcs
      obtain ⟨rfl, rfl, rfl⟩ := hcs
      exact ⟨[], .inl ⟨rfl, rfl, rfl, rfl⟩⟩
    · simp [Value.cells] at hcs
      obtain ⟨rfl, rfl, rfl⟩ := hcs
      exact ⟨zs, .inr ⟨_, rfl, hl, hm, by simpa using hz, hcell, hwz⟩⟩
  obtain ⟨a1, len1, cap1, rfl⟩ := okWide_slice Tryz.underlying38 (hval 1 38 v1 rfl rfl)
  have k1 := h1
  have lt1 : ∀ x ∈ p1, x.block < W.heap.size := by obtain ⟨m, hm⟩ := k1; exact DataW.trod_lt m _ _ _ hm
  obtain ⟨z1, w1⟩ : ∃ zs, IsRow .u8 W a1 len1 cap1 zs := by
    obtain ⟨fuel, hf⟩ := h1
    rcases open_ints Tryz.underlying38 Tryz.underlying5 (by kernel_rfl) hf with ⟨hcs, _⟩ | ⟨x, l, c, zs, hcs, _, hl, hm, hz, _, hcell, hwz⟩
    · simp [Value.cells] at hcs
      obtain ⟨rfl, rfl, rfl⟩ := hcs
      exact ⟨[], .inl ⟨rfl, rfl, rfl, rfl⟩⟩
    · simp [Value.cells] at hcs
      obtain ⟨rfl, rfl, rfl⟩ := hcs
      exact ⟨zs, .inr ⟨_, rfl, hl, hm, by simpa using hz, hcell, hwz⟩⟩
  clear hA0 hval0
  refine (walk a0 len0 cap0 z0 a1 len1 cap1 z1 W hE w0 w1).mono fun e W' ⟨he, bel⟩ => ?_
  subst he
  exact ⟨_, rfl, _, _, _, [], _, [], hW', trodAll_mk1 (shut_bool Tryz.underlying4 _), (trodAll_cons_mk (Below.trod laidOut (by kernel_rfl) (of_decide_eq_true (by kernel_rfl)) k0 bel lt0) (trodAll_cons_mk (Below.trod laidOut (by kernel_rfl) (of_decide_eq_true (by kernel_rfl)) k1 bel lt1) trodAll_mk0)), rfl, bel.frame _, fun h => by cases h⟩

theorem holds : Rows.BraceLocksSaid :=
  OpenClaim.holds_of_wide 4 Tryz.f4 rfl rfl rfl rfl rfl rfl rfl ⟨rfl, rfl, rfl, rfl, rfl⟩ rfl rfl rfl rfl rfl (by kernel_rfl) Tryz.func4 (by kernel_rfl)
    (of_decide_eq_true (by kernel_rfl)) (by unfold Func.isWrapper; first | (rw [if_pos (by decide +kernel)]; kernel_rfl) | (rw [if_neg (by decide +kernel)]; exact ⟨rfl, rfl⟩))
    (fun os started H enc _ => lifted os started H enc)

theorem proved : Rows.BraceLocksCardSaid :=
  Claim7.holds_tied_plain_at .later [] [.data, .data, .data] true (true, "b573a46562803023310c564b5c254f535c8d8d1ff01a79029fa3c0c32d838add") false holds (fun _ h => by cases h) (by kernel_rfl) (fun _ h => by cases h) braceLocks_row_tie rfl ⟨rfl, rfl⟩ (by kernel_rfl) rfl
    (fun f fn hf hfn => by
      obtain rfl : f = 4 := Option.some.inj ((show Tryz.prog.funcNamed "transhumance/transhumancelaw5.BraceLocks" = some 4 by kernel_rfl).symm.trans hf) |>.symm
      obtain rfl : fn = Tryz.f4 := (Option.some.inj (Tryz.func4.symm.trans hfn)).symm
      exact ⟨by kernel_rfl, fun j t ht => by
        rw [Tryz.params4] at ht
        have hm : t ∈ ([37, 38] : List TypeId) := by simpa using Array.mem_of_getElem? ht
        have hall : (([37, 38] : List TypeId).all fun u => !Tryz.prog.wantsStandIn u) = true := by kernel_rfl
        exact (show Tryz.prog.wantsStandIn t = false by simpa using List.all_eq_true.1 hall t hm)⟩)
    (by kernel_rfl)

end Go.Proofs.YtnmmhihfnphjeaaGreatDoor.braceLocks
