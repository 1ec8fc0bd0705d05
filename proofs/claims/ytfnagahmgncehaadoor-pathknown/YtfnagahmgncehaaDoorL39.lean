/-
  The walk of PathKnown.
-/
import Derived.Test.YtfnagahmgncehaaDoorH10
namespace Go.Proofs.YtfnagahmgncehaaDoor.pathKnown
set_option linter.unusedSimpArgs false
set_option linter.unusedVariables false
open Go.RowKit Go.Vr Go.Sort Go.Tx Go.Pa Go.Lib
attribute [local go_sem] setCellDrewN allocDrewN

def kt : List ByteArray := [⟨#[97]⟩, ⟨#[97, 47, 118, 50]⟩, ⟨#[118, 50]⟩, ⟨#[97, 47, 118, 49]⟩, ⟨#[97, 47, 118, 48]⟩, ⟨#[97, 47, 118, 48, 50]⟩, ⟨#[97, 47, 118, 50, 47, 98]⟩, ⟨#[97, 47, 118, 57, 57, 57, 57, 57, 57]⟩, ⟨#[97, 47, 118, 49, 48, 48, 48, 48, 48, 48]⟩, ⟨#[97, 47, 118]⟩, ⟨#[97, 47, 118, 118, 50]⟩, ⟨#[97, 46, 98, 47, 99, 45, 100, 95, 101]⟩, ⟨#[46, 46, 46]⟩, ⟨#[97, 47, 118, 49, 48, 47, 118, 50]⟩]
def kr : List ByteArray := [⟨#[97]⟩, ⟨#[97]⟩, ⟨#[118, 50]⟩, ⟨#[97, 47, 118, 49]⟩, ⟨#[97, 47, 118, 48]⟩, ⟨#[97, 47, 118, 48, 50]⟩, ⟨#[97, 47, 118, 50, 47, 98]⟩, ⟨#[97]⟩, ⟨#[97, 47, 118, 49, 48, 48, 48, 48, 48, 48]⟩, ⟨#[97, 47, 118]⟩, ⟨#[97, 47, 118, 118, 50]⟩, ⟨#[97, 46, 98, 47, 99, 45, 100, 95, 101]⟩, ⟨#[46, 46, 46]⟩, ⟨#[97, 47, 118, 49, 48]⟩]
def kn : List Int := [0, 2, 0, 0, 0, 0, 0, 999999, 0, 0, 0, 0, 0, 2]
def kb : List ByteArray := [⟨#[]⟩, ⟨#[46]⟩, ⟨#[46, 46]⟩, ⟨#[97, 47]⟩, ⟨#[47, 97]⟩, ⟨#[97, 47, 47, 98]⟩, ⟨#[65]⟩, ⟨#[97, 32, 98]⟩, ⟨#[97, 47, 46, 46]⟩, ⟨#[97, 47, 46, 47, 98]⟩, ⟨#[97, 64, 98]⟩, ⟨#[97, 92, 98]⟩]
abbrev tobj : Obj := .cells #[.string ⟨#[97]⟩, .string ⟨#[97, 47, 118, 50]⟩, .string ⟨#[118, 50]⟩, .string ⟨#[97, 47, 118, 49]⟩, .string ⟨#[97, 47, 118, 48]⟩, .string ⟨#[97, 47, 118, 48, 50]⟩, .string ⟨#[97, 47, 118, 50, 47, 98]⟩, .string ⟨#[97, 47, 118, 57, 57, 57, 57, 57, 57]⟩, .string ⟨#[97, 47, 118, 49, 48, 48, 48, 48, 48, 48]⟩, .string ⟨#[97, 47, 118]⟩, .string ⟨#[97, 47, 118, 118, 50]⟩, .string ⟨#[97, 46, 98, 47, 99, 45, 100, 95, 101]⟩, .string ⟨#[46, 46, 46]⟩, .string ⟨#[97, 47, 118, 49, 48, 47, 118, 50]⟩] 9
abbrev robj : Obj := .cells #[.string ⟨#[97]⟩, .string ⟨#[97]⟩, .string ⟨#[118, 50]⟩, .string ⟨#[97, 47, 118, 49]⟩, .string ⟨#[97, 47, 118, 48]⟩, .string ⟨#[97, 47, 118, 48, 50]⟩, .string ⟨#[97, 47, 118, 50, 47, 98]⟩, .string ⟨#[97]⟩, .string ⟨#[97, 47, 118, 49, 48, 48, 48, 48, 48, 48]⟩, .string ⟨#[97, 47, 118]⟩, .string ⟨#[97, 47, 118, 118, 50]⟩, .string ⟨#[97, 46, 98, 47, 99, 45, 100, 95, 101]⟩, .string ⟨#[46, 46, 46]⟩, .string ⟨#[97, 47, 118, 49, 48]⟩] 9
abbrev nobj : Obj := .cells #[.int .i64 0, .int .i64 2, .int .i64 0, .int .i64 0, .int .i64 0, .int .i64 0, .int .i64 0, .int .i64 999999, .int .i64 0, .int .i64 0, .int .i64 0, .int .i64 0, .int .i64 0, .int .i64 2] 3
abbrev bobj : Obj := .cells #[.string ⟨#[]⟩, .string ⟨#[46]⟩, .string ⟨#[46, 46]⟩, .string ⟨#[97, 47]⟩, .string ⟨#[47, 97]⟩, .string ⟨#[97, 47, 47, 98]⟩, .string ⟨#[65]⟩, .string ⟨#[97, 32, 98]⟩, .string ⟨#[97, 47, 46, 46]⟩, .string ⟨#[97, 47, 46, 47, 98]⟩, .string ⟨#[97, 64, 98]⟩, .string ⟨#[97, 92, 98]⟩] 9
theorem k_all : ∀ i, i < 14 → right (kt.getD i ⟨#[]⟩).data.toList = true ∧ maj (kt.getD i ⟨#[]⟩).data.toList = ((kr.getD i ⟨#[]⟩).data.toList, kn.getD i 0) ∧ (kt.getD i ⟨#[]⟩).size ≤ 40 := by
  have h : ((List.range 14).all fun i => right (kt.getD i ⟨#[]⟩).data.toList && (decide (maj (kt.getD i ⟨#[]⟩).data.toList = ((kr.getD i ⟨#[]⟩).data.toList, kn.getD i 0)) && decide ((kt.getD i ⟨#[]⟩).size ≤ 40))) = true := by decide +kernel
  intro i hi
  have := List.all_eq_true.1 h i (List.mem_range.2 hi)
  simp only [Bool.and_eq_true, decide_eq_true_eq] at this
  exact this
theorem b_all : ∀ i, i < 12 → right (kb.getD i ⟨#[]⟩).data.toList = false ∧ (kb.getD i ⟨#[]⟩).size ≤ 40 := by
  have h : ((List.range 12).all fun i => !right (kb.getD i ⟨#[]⟩).data.toList && decide ((kb.getD i ⟨#[]⟩).size ≤ 40)) = true := by decide +kernel
  intro i hi
  have := List.all_eq_true.1 h i (List.mem_range.2 hi)
  simp only [Bool.and_eq_true, decide_eq_true_eq, Bool.not_eq_true'] at this
  exact this
theorem t_cells (w : World) : ∀ j, j < 14 → (w.alloc tobj).cell? ⟨w.heap.size, j, none⟩ = some (.string (kt.getD j ⟨#[]⟩)) := by
  intro j hj
  have e : tobj = .cells (kt.map Value.string).toArray 9 := rfl
  rw [e]
  have hl : j < kt.length := hj
  simp [List.getElem?_eq_getElem hl]
theorem r_cells (w : World) : ∀ j, j < 14 → (w.alloc robj).cell? ⟨w.heap.size, j, none⟩ = some (.string (kr.getD j ⟨#[]⟩)) := by
  intro j hj
  have e : robj = .cells (kr.map Value.string).toArray 9 := rfl
  rw [e]
  have hl : j < kr.length := hj
  simp [List.getElem?_eq_getElem hl]
theorem n_cells (w : World) : ∀ j, j < 14 → (w.alloc nobj).cell? ⟨w.heap.size, j, none⟩ = some (.int .i64 (kn.getD j 0)) := by
  intro j hj
  have e : nobj = .cells (kn.map (Value.int .i64)).toArray 3 := rfl
  rw [e]
  have hl : j < kn.length := hj
  simp [List.getElem?_eq_getElem hl]
theorem b_cells (w : World) : ∀ j, j < 12 → (w.alloc bobj).cell? ⟨w.heap.size, j, none⟩ = some (.string (kb.getD j ⟨#[]⟩)) := by
  intro j hj
  have e : bobj = .cells (kb.map Value.string).toArray 9 := rfl
  rw [e]
  have hl : j < kb.length := hj
  simp [List.getElem?_eq_getElem hl]

set_option maxHeartbeats 4000000 in
set_option maxRecDepth 100000 in
theorem walk (a0 : Int) (w : World) (he : Env w) (h0 : -9223372036854775808 ≤ a0 ∧ a0 ≤ 9223372036854775807) :
    Calls Tryd.prog 8 #[.int .i64 a0] w fun e w' => e = .returned (.bool true) ∧ Below w.heap.size w w' := by
  have CK := hide (known4_any w he)
  have HE := hide he
  clear he
  go_enter Tryd.func8, Tryd.ntmps8
  go_wp2_with fail
  refine CK.out.mono ?_
  rintro e w1 ⟨rfl, b1⟩
  have B1 := hide b1
  have E1 := hide (HE.out.later b1)
  clear b1 CK HE
  go_wp2_with fail
  have ht := hide (fun j hj => cellLater (show Below (w1.alloc tobj).heap.size (w1.alloc tobj) ((((w1.alloc tobj).alloc robj).alloc nobj).alloc bobj) from (by repeat (first | with_reducible assumption | with_reducible exact Below.refl _ _ | with_reducible refine Below.setCell ?_ (by first | exact Nat.le_refl _ | (simp; done) | (simp; omega)) _ | with_reducible refine bal ?_ _ | with_reducible refine Below.alloc ?_ (by first | exact Nat.le_refl _ | (simp; done) | (simp; omega)) _ | with_reducible refine Below.drew ?_))) (t_cells w1 j hj))
  have hr := hide (fun j hj => cellLater (show Below ((w1.alloc tobj).alloc robj).heap.size ((w1.alloc tobj).alloc robj) ((((w1.alloc tobj).alloc robj).alloc nobj).alloc bobj) from (by repeat (first | with_reducible assumption | with_reducible exact Below.refl _ _ | with_reducible refine Below.setCell ?_ (by first | exact Nat.le_refl _ | (simp; done) | (simp; omega)) _ | with_reducible refine bal ?_ _ | with_reducible refine Below.alloc ?_ (by first | exact Nat.le_refl _ | (simp; done) | (simp; omega)) _ | with_reducible refine Below.drew ?_))) (r_cells (w1.alloc tobj) j hj))
  have hn := hide (fun j hj => cellLater (show Below (((w1.alloc tobj).alloc robj).alloc nobj).heap.size (((w1.alloc tobj).alloc robj).alloc nobj) ((((w1.alloc tobj).alloc robj).alloc nobj).alloc bobj) from (by repeat (first | with_reducible assumption | with_reducible exact Below.refl _ _ | with_reducible refine Below.setCell ?_ (by first | exact Nat.le_refl _ | (simp; done) | (simp; omega)) _ | with_reducible refine bal ?_ _ | with_reducible refine Below.alloc ?_ (by first | exact Nat.le_refl _ | (simp; done) | (simp; omega)) _ | with_reducible refine Below.drew ?_))) (n_cells ((w1.alloc tobj).alloc robj) j hj))
  have hb := hide (fun j hj => b_cells (((w1.alloc tobj).alloc robj).alloc nobj) j hj)
  have ba : Below w1.heap.size w1 ((((w1.alloc tobj).alloc robj).alloc nobj).alloc bobj) := (by repeat (first | with_reducible assumption | with_reducible exact Below.refl _ _ | with_reducible refine Below.setCell ?_ (by first | exact Nat.le_refl _ | (simp; done) | (simp; omega)) _ | with_reducible refine bal ?_ _ | with_reducible refine Below.alloc ?_ (by first | exact Nat.le_refl _ | (simp; done) | (simp; omega)) _ | with_reducible refine Below.drew ?_))
  have s1 : (w1.alloc tobj).heap.size = w1.heap.size + 1 := by simp
  have s2 : ((w1.alloc tobj).alloc robj).heap.size = w1.heap.size + 1 + 1 := by simp
  have s3 : (((w1.alloc tobj).alloc robj).alloc nobj).heap.size = w1.heap.size + 1 + 1 + 1 := by simp
  rw [s1] at hr
  rw [s2] at hn
  rw [s3] at hb
  have B2 := hide (step B1.out ba)
  have E2 := hide (E1.out.later ba)
  generalize hw2 : (((w1.alloc tobj).alloc robj).alloc nobj).alloc bobj = w2 at *
  clear hw2 s1 s2 s3 ba B1 E1
  refine (within4_nat _ _ _ (by omega) (by omega) (by omega) (by omega)).mono ?_
  rintro e w3 ⟨i, rfl, hi, -, hw⟩
  subst hw
  have hi2 : i < 14 := by omega
  obtain ⟨k1, k2, k3⟩ := k_all i hi2
  have ct := ht.out i hi2
  have CM := hide (fun W hW => pmajor_any (kt.getD i ⟨#[]⟩) W (by omega) hW)
  have CR := hide (fun W hW => pright_any (kt.getD i ⟨#[]⟩) W (by omega) hW)
  unfold mval at CM
  rw [k2] at CM
  rw [k1] at CR
  simp only [str_of] at CM
  have cr := hide (hr.out i hi2)
  have cn := hide (hn.out i hi2)
  generalize kt.getD i ⟨#[]⟩ = x at *
  generalize kr.getD i ⟨#[]⟩ = y at *
  generalize kn.getD i 0 = m at *
  have ct2 := hide ct
  have i1 : (0 : Int) ≤ (i : Int) := by omega
  have i2 : (i : Int) < 14 := by omega
  clear k1 k2 k3 ht hr hn hi hi2
  obtain ⟨z, hz, hz1, hz2, hz3⟩ : ∃ z, Int.tdiv a0 14 = z ∧ -9223372036854775808 ≤ z ∧ z ≤ 9223372036854775807 ∧ IntKind.i64.wrap z = z := by
    have q1 : -9223372036854775808 ≤ Int.tdiv a0 14 ∧ Int.tdiv a0 14 ≤ 9223372036854775807 := by
      by_cases h : 0 ≤ a0
      · rw [Int.tdiv_eq_ediv_of_nonneg h]; omega
      · have e := Int.tdiv_eq_ediv_of_nonneg (a := -a0) (b := 14) (by omega)
        rw [Int.neg_tdiv] at e
        omega
    exact ⟨_, rfl, q1.1, q1.2, by rw [IntKind.wrap_i64]; omega⟩
  have HZ := hide (And.intro hz1 hz2)
  clear hz1 hz2 h0
  go_wp2_with fail
  refine (CM.out _ E2.out).mono ?_
  rintro e w4 ⟨rfl, b4⟩
  have B4 := hide (step B2.out b4)
  have E4 := hide (E2.out.later b4)
  have ct := cellLater b4 ct2.out
  have cr4 := hide (cellLater b4 cr.out)
  have cn4 := hide (cellLater b4 cn.out)
  have hb4 := hide (fun j hj => cellLater b4 (hb.out j hj))
  clear b4 B2 E2 CM
  go_wp2_with fail
  refine (CR.out _ E4.out).mono ?_
  rintro e w5 ⟨rfl, b5⟩
  have B5 := hide (step B4.out b5)
  have E5 := hide (E4.out.later b5)
  have cr := cellLater b5 cr4.out
  have cn := cellLater b5 cn4.out
  have hb5 := hide (fun j hj => cellLater b5 (hb4.out j hj))
  clear b5 B4 E4 CR ct
  go_wp2_with fail
  refine (within4_nat _ _ _ (by omega) (by omega) (by have := HZ.out; omega) (by have := HZ.out; omega)).mono ?_
  rintro e w6 ⟨j, rfl, hj, -, hw⟩
  subst hw
  have hj2 : j < 12 := by omega
  obtain ⟨k1, k2⟩ := b_all j hj2
  have cb := hb5.out j hj2
  have CB := hide (fun W hW => pright_any (kb.getD j ⟨#[]⟩) W (by omega) hW)
  rw [k1] at CB
  generalize kb.getD j ⟨#[]⟩ = u at *
  have j1 : (0 : Int) ≤ (j : Int) := by omega
  have j2 : (j : Int) < 12 := by omega
  clear k1 k2 hj hj2
  go_wp2_with fail
  refine (CB.out _ E5.out).mono ?_
  rintro e w7 ⟨rfl, b7⟩
  go_wp2_with fail
  go_ret
  exact ⟨by first | rfl | simp, step B5.out b7⟩

end Go.Proofs.YtfnagahmgncehaaDoor.pathKnown
