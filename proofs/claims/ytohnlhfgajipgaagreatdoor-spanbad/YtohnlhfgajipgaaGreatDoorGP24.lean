/-
  The walk of SpanBad.
  SpanBad: these texts are refused just there: for every number the law answers true, and its argument reads afterwards as before. The library's variables as the program's text lays them.
-/
import Derived.Test.YtohnlhfgajipgaaGreatDoorG28
import Derived.BigQuiet
import Derived.Test.YtohnlhfgajipgaaGreatDoorTie
import Derived.Test.YtohnlhfgajipgaaGreatDoorCards
import Derived.Test.YtohnlhfgajipgaaGreatDoorG08
import Derived.ProofKit
import Derived.OpenShut
import Derived.ShutString
import Derived.LaidMore
import Derived.Lay
import Derived.SevenTiedAt
import Derived.Stop.Joined

namespace Go.Proofs.YtohnlhfgajipgaaGreatDoor.spanBad
set_option linter.unusedSimpArgs false
set_option linter.unusedVariables false
open Go.RowKit Go.Vr Go.Sort Go.Tx Go.Lib
attribute [local go_sem] setCellDrewN allocDrewN

/-- The texts, and where they are none. -/
def kt : List ByteArray := [⟨#[]⟩, ⟨#[32, 32]⟩, ⟨#[120]⟩, ⟨#[118, 49, 46, 48, 46, 48, 32, 124]⟩, ⟨#[118, 49, 46, 48, 46, 48, 32, 124, 32, 118, 50, 46, 48, 46, 48]⟩, ⟨#[118, 49, 46, 48, 46, 48, 32, 124, 124]⟩, ⟨#[124, 124, 32, 118, 49, 46, 48, 46, 48]⟩, ⟨#[62, 61, 32, 118, 49, 46, 48, 46, 48]⟩, ⟨#[118, 49, 46, 48, 46, 48, 32, 45, 32]⟩, ⟨#[118, 49, 46, 48, 46, 48, 32, 45, 32, 120]⟩, ⟨#[94, 118, 49, 46, 48, 46, 48, 32, 45, 32, 118, 50, 46, 48, 46, 48]⟩, ⟨#[45, 32, 118, 49, 46, 48, 46, 48]⟩, ⟨#[118, 49, 46, 48, 46, 48, 32, 45, 118, 50, 46, 48, 46, 48]⟩, ⟨#[118, 49]⟩, ⟨#[118, 49, 46, 48]⟩, ⟨#[118, 49, 46, 48, 46, 48, 45]⟩, ⟨#[42, 42]⟩, ⟨#[118, 49, 46, 120, 46, 120]⟩, ⟨#[118, 120]⟩, ⟨#[118, 49, 46, 48, 46, 48, 32, 45, 32, 118, 50, 46, 48, 46, 48, 32, 45, 32, 118, 51, 46, 48, 46, 48]⟩, ⟨#[118, 48, 49, 46, 120]⟩, ⟨#[118, 49, 48, 48, 48, 48, 48, 48, 46, 120]⟩, ⟨#[118, 49, 46, 48, 46, 48, 124, 124, 124, 118, 49, 46, 48, 46, 48]⟩]
def kp : List Nat := [0, 2, 0, 8, 8, 9, 0, 0, 9, 9, 8, 0, 7, 0, 0, 0, 0, 0, 0, 16, 0, 0, 8]
abbrev kobj : Obj := .cells #[.string ⟨#[]⟩, .string ⟨#[32, 32]⟩, .string ⟨#[120]⟩, .string ⟨#[118, 49, 46, 48, 46, 48, 32, 124]⟩, .string ⟨#[118, 49, 46, 48, 46, 48, 32, 124, 32, 118, 50, 46, 48, 46, 48]⟩, .string ⟨#[118, 49, 46, 48, 46, 48, 32, 124, 124]⟩, .string ⟨#[124, 124, 32, 118, 49, 46, 48, 46, 48]⟩, .string ⟨#[62, 61, 32, 118, 49, 46, 48, 46, 48]⟩, .string ⟨#[118, 49, 46, 48, 46, 48, 32, 45, 32]⟩, .string ⟨#[118, 49, 46, 48, 46, 48, 32, 45, 32, 120]⟩, .string ⟨#[94, 118, 49, 46, 48, 46, 48, 32, 45, 32, 118, 50, 46, 48, 46, 48]⟩, .string ⟨#[45, 32, 118, 49, 46, 48, 46, 48]⟩, .string ⟨#[118, 49, 46, 48, 46, 48, 32, 45, 118, 50, 46, 48, 46, 48]⟩, .string ⟨#[118, 49]⟩, .string ⟨#[118, 49, 46, 48]⟩, .string ⟨#[118, 49, 46, 48, 46, 48, 45]⟩, .string ⟨#[42, 42]⟩, .string ⟨#[118, 49, 46, 120, 46, 120]⟩, .string ⟨#[118, 120]⟩, .string ⟨#[118, 49, 46, 48, 46, 48, 32, 45, 32, 118, 50, 46, 48, 46, 48, 32, 45, 32, 118, 51, 46, 48, 46, 48]⟩, .string ⟨#[118, 48, 49, 46, 120]⟩, .string ⟨#[118, 49, 48, 48, 48, 48, 48, 48, 46, 120]⟩, .string ⟨#[118, 49, 46, 48, 46, 48, 124, 124, 124, 118, 49, 46, 48, 46, 48]⟩] 9
abbrev pobj : Obj := .cells #[.int .i64 0, .int .i64 2, .int .i64 0, .int .i64 8, .int .i64 8, .int .i64 9, .int .i64 0, .int .i64 0, .int .i64 9, .int .i64 9, .int .i64 8, .int .i64 0, .int .i64 7, .int .i64 0, .int .i64 0, .int .i64 0, .int .i64 0, .int .i64 0, .int .i64 0, .int .i64 16, .int .i64 0, .int .i64 0, .int .i64 8] 3
theorem k_read : ∀ i, i < 23 → Sp.parseS (kt.getD i ⟨#[]⟩).data.toList = (none, kp.getD i 0) := by
  have h : ((List.range 23).all fun i => (Sp.parseS (kt.getD i ⟨#[]⟩).data.toList).1.isNone && decide ((Sp.parseS (kt.getD i ⟨#[]⟩).data.toList).2 = kp.getD i 0)) = true := by decide +kernel
  intro i hi
  have := List.all_eq_true.1 h i (List.mem_range.2 hi)
  rw [Bool.and_eq_true, decide_eq_true_eq] at this
  exact Prod.ext (Option.isNone_iff_eq_none.1 this.1) this.2
theorem k_small : ∀ i, i < 23 → (kt.getD i ⟨#[]⟩).size ≤ 1000 ∧ ∀ b ∈ (kt.getD i ⟨#[]⟩).data.toList, b.toNat < 128 := by
  have h : ((List.range 23).all fun i => decide ((kt.getD i ⟨#[]⟩).size ≤ 1000) && (kt.getD i ⟨#[]⟩).data.toList.all fun b => decide (b.toNat < 128)) = true := by decide +kernel
  intro i hi
  have := List.all_eq_true.1 h i (List.mem_range.2 hi)
  simp only [Bool.and_eq_true, decide_eq_true_eq, List.all_eq_true] at this
  exact this
theorem k_cells (w : World) : ∀ j, j < 23 → (w.alloc kobj).cell? ⟨w.heap.size, j, none⟩ = some (.string (kt.getD j ⟨#[]⟩)) := by
  intro j hj
  have e : kobj = .cells (kt.map Value.string).toArray 9 := rfl
  rw [e]
  have hl : j < kt.length := hj
  simp [List.getElem?_eq_getElem hl]
theorem p_cells (w : World) : ∀ j, j < 23 → (w.alloc pobj).cell? ⟨w.heap.size, j, none⟩ = some (.int .i64 (kp.getD j 0 : Nat)) := by
  intro j hj
  have e : pobj = .cells (kp.map fun (n : Nat) => Value.int .i64 (n : Int)).toArray 3 := rfl
  rw [e]
  have hl : j < kp.length := hj
  simp [List.getElem?_eq_getElem hl]

set_option maxHeartbeats 4000000 in
set_option maxRecDepth 100000 in
theorem walk (a0 : Int) (w : World) (he : Env w) (h0 : -9223372036854775808 ≤ a0 ∧ a0 ≤ 9223372036854775807) :
    Calls Tryz.prog 11 #[.int .i64 a0] w fun e w' => e = .returned (.bool true) ∧ RowKit.Below w.heap.size w w' := by
  obtain ⟨h0, h2⟩ := h0
  have HE := hide he
  clear he
  go_enter Tryz.func11, Tryz.ntmps11
  go_wp2_with fail
  refine (known3_any w HE.out).mono ?_
  rintro e w1 ⟨rfl, b1⟩
  have E1 := hide (HE.out.later b1)
  clear HE
  go_wp2_with fail
  have ba : RowKit.Below w1.heap.size w1 ((w1.alloc kobj).alloc pobj) := (by repeat (first | with_reducible assumption | with_reducible exact Below.refl _ _ | with_reducible refine Below.setCell ?_ (by first | exact Nat.le_refl _ | (simp; done) | (simp; omega)) _ | with_reducible refine bal ?_ _ | with_reducible refine Below.alloc ?_ (by first | exact Nat.le_refl _ | (simp; done) | (simp; omega)) _ | with_reducible refine Below.drew ?_))
  have hk := hide (fun j hj => cellLater (show RowKit.Below (w1.alloc kobj).heap.size (w1.alloc kobj) ((w1.alloc kobj).alloc pobj) from (by repeat (first | with_reducible assumption | with_reducible exact Below.refl _ _ | with_reducible refine Below.setCell ?_ (by first | exact Nat.le_refl _ | (simp; done) | (simp; omega)) _ | with_reducible refine bal ?_ _ | with_reducible refine Below.alloc ?_ (by first | exact Nat.le_refl _ | (simp; done) | (simp; omega)) _ | with_reducible refine Below.drew ?_))) (k_cells w1 j hj))
  have hp := hide (fun j hj => p_cells (w1.alloc kobj) j hj)
  have hsz : (w1.alloc kobj).heap.size = w1.heap.size + 1 := by simp
  rw [hsz] at hp
  generalize hw2 : (w1.alloc kobj).alloc pobj = w2 at *
  clear hw2 hsz
  have E2 := hide (E1.out.later ba)
  have hB2 := hide (step b1 ba)
  clear E1 ba b1
  refine (within3 _ _ _ (by omega) (by omega) (by omega) (by omega)).mono ?_
  rintro e w3 ⟨i, rfl, hi, -, rfl⟩
  have hi2 : i < 23 := by omega
  have ci := hk.out i hi2
  have cq := hide (hp.out i hi2)
  have CP := hide (sparse_any (kt.getD i ⟨#[]⟩) w3 (Nat.le_trans (k_small i hi2).1 (by omega)) (ia_ascii _ (Nat.le_trans (k_small i hi2).1 (by omega)) (k_small i hi2).2) E2.out)
  rw [k_read i hi2] at CP
  generalize kt.getD i ⟨#[]⟩ = si at *
  generalize kp.getD i 0 = pi at *
  generalize w1.heap.size = N at *
  have i1 : (0 : Int) ≤ (i : Int) := by omega
  have i2 : (i : Int) < 23 := by omega
  clear hk hp hi2 hi
  go_wp2_with fail
  refine CP.out.mono ?_
  rintro e w4 ⟨h4, b4⟩
  have h4 : e = .returned (.tuple #[.slice none 0 0, .int .i64 pi, .int .i64 6]) := h4
  subst h4
  have cp4 := cellLater b4 cq.out
  clear CP ci cq
  go_wp2_with fail
  go_ret
  exact ⟨rfl, step hB2.out b4⟩

end Go.Proofs.YtohnlhfgajipgaaGreatDoor.spanBad

namespace Go.Proofs.YtohnlhfgajipgaaGreatDoor.spanBad
open Go.ChangeShapes Go.WideShapes Go.ChangeAt Go.RowKit
open Go.ChangeMaps (open_string shut_string)
set_option linter.unusedVariables false

theorem own : ownKnob Tryz.prog.godebug = none := by kernel_rfl
theorem laidOut : laidOutB Tryz.prog = true := by kernel_rfl

set_option maxRecDepth 100000 in
theorem lifted (os : Os) (started : os.Started) (H : Type) (enc : TypeId × Value → H) :
    ReturnsInHanded {} Tryz.checked os 11 .any (fun w args => (Rows.spanBadSpec.pre enc Tryz.prog Tryz.f11 Rows.spanBadRow.domain false w args ∧ laidMetH Tryz.prog Rows.spanBadRow.laid w) ∧ sizedMet enc Tryz.prog Tryz.f11 (OpenSpec.ofChange Rows.spanBadSpec) false w args) (Rows.spanBadSpec.post enc Tryz.prog Tryz.f11 false true false false) := by
  refine handed_laid_shaped (C := Tryz.checked) (laid := Rows.spanBadRow.laid) own started (by kernel_rfl) Tryz.func11
    (ChangeSpec.witness_shaped (enc := enc) (C := Tryz.checked) (os := os) (X := fun w _ => laidMetH Tryz.prog Rows.spanBadRow.laid w) false (World.laidAll Tryz.prog os Rows.spanBadRow.laid) #[.int .i64 0] 8 (World.laidAll_os _ _ _)
      (World.shaped_of_ZipB (by kernel_rfl) (by kernel_rfl)) (by kernel_rfl) (by kernel_rfl) (by kernel_rfl)
      (by rw [MakeChecks.laidMetH_plain _ _ _ (by kernel_rfl)]; exact laidMet_laidAll _ (by kernel_rfl) (by kernel_rfl))) ?_
  intro W base args ds gs before hval0 hW hsz0 hL hS
  have hE : Env W := env_of hL hS
  have hval : ∀ (j : Nat) t v, Tryz.f11.params[j]? = some t → args[j]? = some v → Value.okWide Tryz.prog W .any base t v := hval0
  have hW' := hW
  obtain ⟨p, q, hA0, hV, rfl, hfz, hnd⟩ := hW
  have hA : DataW.TrodAll enc Tryz.prog W 0 (fun _ => true) true Tryz.f11.params.toList args.toList ds p := hA0
  rw [Tryz.params11] at hA hval
  obtain ⟨v0, vs0, d0, ds0, p0, q0, hargs, rfl, rfl, h0, r0⟩ := trodAll_cons hA
  obtain ⟨rfl, rfl, rfl⟩ := trodAll_nil r0
  obtain rfl : args = #[v0] := by cases args; simp_all
  obtain ⟨rfl, rfl⟩ := trodVars_none hV
  obtain ⟨a0, rfl, rfl, rfl, w0⟩ := open_int Tryz.underlying3 (hval 0 3 v0 rfl rfl) h0
  clear hA0 hval0
  refine (walk a0 W hE (Go.bounds_i64 w0)).mono fun e W' ⟨he, bel⟩ => ?_
  subst he
  exact ⟨_, rfl, _, _, _, [], _, [], hW', trodAll_mk1 (shut_bool Tryz.underlying4 _), (trodAll_cons_mk (shut_int Tryz.underlying3 w0) trodAll_mk0), rfl, bel.frame _, fun h => by cases h⟩

theorem holds : Rows.SpanBadSaid :=
  OpenClaim.holds_of_wide 11 Tryz.f11 rfl rfl rfl rfl rfl rfl rfl ⟨rfl, rfl, rfl, rfl, rfl⟩ rfl rfl rfl rfl rfl (by kernel_rfl) Tryz.func11 (by kernel_rfl)
    (of_decide_eq_true (by kernel_rfl)) (by unfold Func.isWrapper; first | (rw [if_pos (by decide +kernel)]; kernel_rfl) | (rw [if_neg (by decide +kernel)]; exact ⟨rfl, rfl⟩))
    (fun os started H enc _ => lifted os started H enc)

theorem proved : Rows.SpanBadCardSaid :=
  Claim7.holds_tied_plain_at .later [] [.data, .data, .data, .data, .sentinel, .sentinel, .pinned] true (true, "677dda388697c3be81f00c8f3e7162a91e326615aec89fc25f0adc6f7f408f5b") true holds (fun _ h => by cases h) (by kernel_rfl) (fun _ h => by cases h) spanBad_row_tie rfl ⟨rfl, rfl⟩ (by kernel_rfl) rfl
    (fun f fn hf hfn => by
      obtain rfl : f = 11 := Option.some.inj ((show Tryz.prog.funcNamed "transhumance/transhumancelaw3.SpanBad" = some 11 by kernel_rfl).symm.trans hf) |>.symm
      obtain rfl : fn = Tryz.f11 := (Option.some.inj (Tryz.func11.symm.trans hfn)).symm
      exact ⟨by kernel_rfl, fun j t ht => by
        rw [Tryz.params11] at ht
        have hm : t ∈ ([3] : List TypeId) := by simpa using Array.mem_of_getElem? ht
        have hall : (([3] : List TypeId).all fun u => !Tryz.prog.wantsStandIn u) = true := by kernel_rfl
        exact (show Tryz.prog.wantsStandIn t = false by simpa using List.all_eq_true.1 hall t hm)⟩)
    (by kernel_rfl)

end Go.Proofs.YtohnlhfgajipgaaGreatDoor.spanBad
