/-
  Contract of the law's Lock.
-/
import Derived.Test.YtnmmhihfnphjeaaGreatDoorG31
import Derived.Test.YtnmmhihfnphjeaaGreatDoorG28
import Derived.Test.YtnmmhihfnphjeaaGreatDoorG32
import Derived.Test.YtnmmhihfnphjeaaGreatDoorG08

namespace Go.Proofs.YtnmmhihfnphjeaaGreatDoor.B
set_option linter.unusedSimpArgs false
set_option linter.unusedVariables false
open Go.RowKit Go.Vr Go.Sort Go.Tx Go.Lib
open Go.Pa (right mkP mkP_ok)
open Go.Br hiding Bs
open Go.Proofs.YtnmmhihfnphjeaaGreatDoor.W (lplain_any sg_plain)
attribute [local go_sem] setCellDrewN allocDrewN

def revL : List UInt8 := [48, 49, 50, 51, 52, 53, 54, 55, 56, 57, 97, 98, 99, 100, 101, 102, 48, 49, 50, 51, 52, 53, 54, 55]
theorem rev_str (t : Nat) : (ByteArray.mk #[48, 49, 50, 51, 52, 53, 54, 55, 56, 57, 97, 98, 99, 100, 101, 102, 48, 49, 50, 51, 52, 53, 54, 55]).extract 0 t = str (revL.take t) := by
  refine ba_ext ?_
  rw [str_list, extract_data]
  simp [revL]
theorem rev_ok : ∀ j, j < 12 → plain (revL.take (12 + j)) = true ∧ revL.take (12 + j) ≠ [] ∧ (revL.take (12 + j)).length ≤ 80 := by
  have h : ((List.range 12).all fun j => plain (revL.take (12 + j)) && (!(revL.take (12 + j)).isEmpty && decide ((revL.take (12 + j)).length ≤ 80))) = true := by decide +kernel
  intro j hj
  have := List.all_eq_true.1 h j (List.mem_range.2 hj)
  simp only [Bool.and_eq_true, Bool.not_eq_true', decide_eq_true_eq, List.isEmpty_eq_false_iff] at this
  exact this
theorem ver_ok (v : V) (h : v.ok = true) : v.p.size ≤ 1000 ∧ (0 ≤ v.a ∧ v.a < 1000000000) ∧ (0 ≤ v.b ∧ v.b < 1000000000) ∧ (0 ≤ v.c ∧ v.c < 1000000000) ∧ (txt v).length ≤ 80 := by
  obtain ⟨h1, h2, h3, h4⟩ := ok_parts h
  have hp : v.p.data.toList.length ≤ 40 := by
    unfold preOk at h4
    rw [Bool.and_eq_true, decide_eq_true_eq] at h4
    exact h4.1
  have hi : ∀ n : Int, 0 ≤ n → n ≤ 999999 → (itoa n).length ≤ 9 := fun n h0 h1 => by have := itoa_size n h0 (by omega); rw [str_size] at this; exact this
  have l1 := hi v.a h1.1 h1.2
  have l2 := hi v.b h2.1 h2.2
  have l3 := hi v.c h3.1 h3.2
  have hp2 : v.p.size ≤ 40 := by rw [← len_eq]; exact hp
  refine ⟨by omega, by omega, by omega, by omega, ?_⟩
  unfold txt tail
  by_cases e : v.p.data.toList = []
  · rw [if_pos e]; simp; omega
  · rw [if_neg e]; simp; omega

set_option maxHeartbeats 16000000 in
set_option maxRecDepth 100000 in
theorem lock5_any (n m : Int) (a : Option Addr) (len cap : Nat) (zs : List Int) (w : World) (hr : Row .u8 w a len cap zs) (h0 : -9223372036854775808 ≤ n ∧ n ≤ 9223372036854775807) (h1 : -9223372036854775808 ≤ m ∧ m ≤ 9223372036854775807) :
    Calls Tryz.prog 31 #[.int .i64 n, .int .i64 m, .slice a len cap] w fun e w' => ∃ x : Lk, e = .returned (.agg (lkc x)) ∧ okX x ∧ Below w.heap.size w w' := by
  have HR : Hid (∀ W, Below w.heap.size w W → Calls Tryz.prog 34 #[.slice a len cap, .int .i64 20] W fun e w' => e = .returned (.string (str (sg (zs.take 20)))) ∧ Below W.heap.size W w') := fun W hW => lplain_any a len cap zs 20 W ⟨hr.n, hr.nil, hr.le, hr.mx, fun x e i hi => cellLater hW (hr.cell x e i hi), hr.wf⟩ (by omega)
  have CM := hide (fun k W (hk : -9223372036854775808 ≤ k ∧ k ≤ 9223372036854775807) => make4_any k W hk)
  have CV := hide (fun W => make_any m n W h1 h0)
  have CT := hide (fun (v : V) W (hv : v.ok = true) => rtext_any v.a v.b v.c v.p W (ver_ok v hv).1 (ver_ok v hv).2.1 (ver_ok v hv).2.2.1 (ver_ok v hv).2.2.2.1)
  have CM2 := hide (fun W => make4_any m W h1)
  have hB0 := Box.new w #[.string ⟨#[]⟩, .string ⟨#[]⟩, .string ⟨#[]⟩, .string ⟨#[]⟩, .string ⟨#[]⟩] 49
  have HB0 := hide hB0
  have HW0 := hide (show Below w.heap.size w (w.alloc (.cells #[.string ⟨#[]⟩, .string ⟨#[]⟩, .string ⟨#[]⟩, .string ⟨#[]⟩, .string ⟨#[]⟩] 49)) from (by repeat (first | with_reducible assumption | with_reducible exact Below.refl _ _ | with_reducible refine Below.setCell ?_ (by first | exact Nat.le_refl _ | (simp; done) | (simp; omega)) _ | with_reducible refine bal ?_ _ | with_reducible refine Below.alloc ?_ (by first | exact Nat.le_refl _ | (simp; done) | (simp; omega)) _ | with_reducible refine Below.drew ?_)))
  clear hr hB0
  go_enter Tryz.func31, Tryz.ntmps31
  go_wp2_with fail
  generalize w.alloc (.cells #[.string ⟨#[]⟩, .string ⟨#[]⟩, .string ⟨#[]⟩, .string ⟨#[]⟩, .string ⟨#[]⟩] 49) = W0 at *
  refine (within5_nat _ _ _ (by omega) (by omega) (by omega) (by omega)).mono ?_
  rintro e w1 ⟨k, rfl, hk, -, rfl⟩
  have hk2 : k < 1099511627776 := by omega
  have CK := hide (CM.out k w1 (by omega))
  clear h0 h1 CM hk
  go_wp2_with fail
  refine CK.out.mono ?_
  rintro e w2 ⟨rfl, b2⟩
  have HP := hide (mkP_ok k)
  have HPP := hide (mkP_plain k)
  have HP2 := hide (mkP_ok m)
  have HPP2 := hide (mkP_plain m)
  have HZ := hide (HB0.out.later b2)
  have HB := hide (HW0.out.trans (b2.mono HW0.out.size))
  have hne : w.heap.size < w2.heap.size := Nat.lt_of_lt_of_le HB0.out.lt b2.size
  clear b2 CK
  generalize mkP k = root at *
  have e3 : Int.tmod (k : Int) 3 = ((k % 3 : Nat) : Int) := remE k 3
  have q3 : Int.tdiv (k : Int) 3 = ((k / 3 : Nat) : Int) := quoE k 3
  have e12 : Int.tmod ((k / 3 : Nat) : Int) 12 = ((k / 3 % 12 : Nat) : Int) := remE (k / 3) 12
  have q36 : Int.tdiv (k : Int) 36 = ((k / 36 : Nat) : Int) := quoE k 36
  have e36 : Int.tmod ((k / 36 : Nat) : Int) 3 = ((k / 36 % 3 : Nat) : Int) := remE (k / 36) 3
  have q108 : Int.tdiv (k : Int) 108 = ((k / 108 : Nat) : Int) := quoE k 108
  have e108 : Int.tmod ((k / 108 : Nat) : Int) 4 = ((k / 108 % 4 : Nat) : Int) := remE (k / 108) 4
  have h12 : k / 3 % 12 < 12 := Nat.mod_lt _ (by omega)
  have h3 : k % 3 < 3 := Nat.mod_lt _ (by omega)
  have b3 : k / 3 < 1099511627776 := by omega
  have b36 : k / 36 < 1099511627776 := by omega
  have b108 : k / 108 < 1099511627776 := by omega
  generalize k / 3 % 12 = j at *
  generalize k / 3 = d3 at *
  generalize k / 36 % 3 = u at *
  generalize k / 36 = d36 at *
  generalize k / 108 % 4 = t at *
  generalize k / 108 = d108 at *
  generalize k % 3 = r at *
  have r3 : IntKind.i64.wrap (d3 : Int) = (d3 : Int) := by rw [IntKind.wrap_i64]; omega
  have r36 : IntKind.i64.wrap (d36 : Int) = (d36 : Int) := by rw [IntKind.wrap_i64]; omega
  have r108 : IntKind.i64.wrap (d108 : Int) = (d108 : Int) := by rw [IntKind.wrap_i64]; omega
  have HJ := hide (rev_ok j h12)
  have j0 : (0 : Int) ≤ 12 + (j : Int) := by omega
  have j1 : 12 + (j : Int) ≤ 24 := by omega
  have j2 : (12 + (j : Int)).toNat = 12 + j := by omega
  have hrv := rev_str (12 + j)
  have HRV := hide hrv
  have Hne := hide hne
  clear hk2 b3 b36 b108 hne h12
  have H3 := hide h3
  clear h3
  obtain rfl | rfl | rfl : r = 0 ∨ r = 1 ∨ r = 2 := by have := H3.out; omega
  · by_cases hu : u = 0
    · subst hu
      by_cases ht : t = 0
      · subst ht
        have Ba : Below w2.heap.size w2 (w2.alloc (.cells #[.string (str root), .string ⟨#[]⟩, .string (str (revL.take (12 + j))), .string ⟨#[]⟩, .string ⟨#[]⟩] 49)) := (by repeat (first | with_reducible assumption | with_reducible exact Below.refl _ _ | with_reducible refine Below.setCell ?_ (by first | exact Nat.le_refl _ | (simp; done) | (simp; omega)) _ | with_reducible refine bal ?_ _ | with_reducible refine Below.alloc ?_ (by first | exact Nat.le_refl _ | (simp; done) | (simp; omega)) _ | with_reducible refine Below.drew ?_))
        have X0 := hide (Box.new w2 #[.string (str root), .string ⟨#[]⟩, .string (str (revL.take (12 + j))), .string ⟨#[]⟩, .string ⟨#[]⟩] 49)
        have Z0 := hide (HZ.out.later Ba)
        have B0 := hide (HB.out.trans (Ba.mono HB.out.size))
        clear Ba
        go_wp2_with fail
        refine (HR.out _ B0.out).mono ?_
        rintro e v1 ⟨rfl, b1⟩
        have X1 := hide (X0.out.later b1)
        have Z1 := hide (Z0.out.later b1)
        have B1 := hide (B0.out.trans (b1.mono B0.out.size))
        clear b1
        have xc := X1.out.c
        have xf := X1.out.f
        have X2 := hide (X1.out.set 3 (.string (str (sg (zs.take 20)))) (by simp))
        have Z2 := hide (Z1.out.of_block (w' := v1.setCell ⟨w2.heap.size, 3, none⟩ (.string (str (sg (zs.take 20))))) (Below.heap_setCell _ _ _ _ (by show w.heap.size ≠ w2.heap.size; have := Hne.out; omega)))
        have B2 := hide (B1.out.setCell (p := ⟨w2.heap.size, 3, none⟩) (by show w.heap.size ≤ w2.heap.size; have := Hne.out; omega) (.string (str (sg (zs.take 20)))))
        go_wp2_with fail
        refine (CM2.out _).mono ?_
        rintro e v3 ⟨rfl, b3⟩
        have X3 := hide (X2.out.later b3)
        have Z3 := hide (Z2.out.later b3)
        have B3 := hide (B2.out.trans (b3.mono B2.out.size))
        clear b3
        clear xc xf
        have xc := X3.out.c
        have xf := X3.out.f
        have X4 := hide (X3.out.set 4 (.string (str (mkP m))) (by simp))
        have Z4 := hide (Z3.out.of_block (w' := v3.setCell ⟨w2.heap.size, 4, none⟩ (.string (str (mkP m)))) (Below.heap_setCell _ _ _ _ (by show w.heap.size ≠ w2.heap.size; have := Hne.out; omega)))
        have B4 := hide (B3.out.setCell (p := ⟨w2.heap.size, 4, none⟩) (by show w.heap.size ≤ w2.heap.size; have := Hne.out; omega) (.string (str (mkP m))))
        have xcE := X4.out.c
        have zc := Z4.out.c
        have zf := Z4.out.f
        go_wp2_with fail
        obtain ⟨xs, xb⟩ := box_set5 Z4.out (.string (str root)) (.string ⟨#[]⟩) (.string (str (revL.take (12 + j)))) (.string (str (sg (zs.take 20)))) (.string (str (mkP m)))
        have xd := xs.c
        have HV : Hid (∃ x : Lk, Ending.returned (.agg #[.string (str root), .string ⟨#[]⟩, .string (str (revL.take (12 + j))), .string (str (sg (zs.take 20))), .string (str (mkP m))]) = .returned (.agg (lkc x)) ∧ okX x ∧ Below w.heap.size w _) := ⟨⟨root, [], (revL.take (12 + j)), (sg (zs.take 20)), (mkP m)⟩, rfl, okX.mk' HP.out.1 ⟨HPP.out, rfl, HJ.out.1, sg_plain _, HPP2.out⟩ (.inr HP2.out.1) (.inl HJ.out.2.1) ⟨(Nat.le_trans HP.out.2.2 (by decide)), (by simp), HJ.out.2.2, (by show (sg (zs.take 20)).length ≤ 80; unfold sg; rw [List.length_map, List.length_take]; omega), (Nat.le_trans HP2.out.2.2 (by decide))⟩, B4.out.trans (xb _ (Nat.le_refl _))⟩
        clear xs xb zc zf xc xf xcE
        exact bodyPost_ret (v := .agg #[.string (str root), .string ⟨#[]⟩, .string (str (revL.take (12 + j))), .string (str (sg (zs.take 20))), .string (str (mkP m))]) (by simp [results, Tryz.results31, go_sem, *]) rfl HV.out
      · have ht2 : ¬ ((t : Int) = 0) := by omega
        clear ht
        have Ba : Below w2.heap.size w2 (w2.alloc (.cells #[.string (str root), .string ⟨#[]⟩, .string (str (revL.take (12 + j))), .string ⟨#[]⟩, .string ⟨#[]⟩] 49)) := (by repeat (first | with_reducible assumption | with_reducible exact Below.refl _ _ | with_reducible refine Below.setCell ?_ (by first | exact Nat.le_refl _ | (simp; done) | (simp; omega)) _ | with_reducible refine bal ?_ _ | with_reducible refine Below.alloc ?_ (by first | exact Nat.le_refl _ | (simp; done) | (simp; omega)) _ | with_reducible refine Below.drew ?_))
        have X0 := hide (Box.new w2 #[.string (str root), .string ⟨#[]⟩, .string (str (revL.take (12 + j))), .string ⟨#[]⟩, .string ⟨#[]⟩] 49)
        have Z0 := hide (HZ.out.later Ba)
        have B0 := hide (HB.out.trans (Ba.mono HB.out.size))
        clear Ba
        go_wp2_with fail
        refine (HR.out _ B0.out).mono ?_
        rintro e v1 ⟨rfl, b1⟩
        have X1 := hide (X0.out.later b1)
        have Z1 := hide (Z0.out.later b1)
        have B1 := hide (B0.out.trans (b1.mono B0.out.size))
        clear b1
        have xc := X1.out.c
        have xf := X1.out.f
        have X2 := hide (X1.out.set 3 (.string (str (sg (zs.take 20)))) (by simp))
        have Z2 := hide (Z1.out.of_block (w' := v1.setCell ⟨w2.heap.size, 3, none⟩ (.string (str (sg (zs.take 20))))) (Below.heap_setCell _ _ _ _ (by show w.heap.size ≠ w2.heap.size; have := Hne.out; omega)))
        have B2 := hide (B1.out.setCell (p := ⟨w2.heap.size, 3, none⟩) (by show w.heap.size ≤ w2.heap.size; have := Hne.out; omega) (.string (str (sg (zs.take 20)))))
        have xcE := X2.out.c
        have zc := Z2.out.c
        have zf := Z2.out.f
        go_wp2_with fail
        obtain ⟨xs, xb⟩ := box_set5 Z2.out (.string (str root)) (.string ⟨#[]⟩) (.string (str (revL.take (12 + j)))) (.string (str (sg (zs.take 20)))) (.string ⟨#[]⟩)
        have xd := xs.c
        have HV : Hid (∃ x : Lk, Ending.returned (.agg #[.string (str root), .string ⟨#[]⟩, .string (str (revL.take (12 + j))), .string (str (sg (zs.take 20))), .string ⟨#[]⟩]) = .returned (.agg (lkc x)) ∧ okX x ∧ Below w.heap.size w _) := ⟨⟨root, [], (revL.take (12 + j)), (sg (zs.take 20)), []⟩, rfl, okX.mk' HP.out.1 ⟨HPP.out, rfl, HJ.out.1, sg_plain _, rfl⟩ (.inl rfl) (.inl HJ.out.2.1) ⟨(Nat.le_trans HP.out.2.2 (by decide)), (by simp), HJ.out.2.2, (by show (sg (zs.take 20)).length ≤ 80; unfold sg; rw [List.length_map, List.length_take]; omega), (by simp)⟩, B2.out.trans (xb _ (Nat.le_refl _))⟩
        clear xs xb zc zf xc xf xcE
        exact bodyPost_ret (v := .agg #[.string (str root), .string ⟨#[]⟩, .string (str (revL.take (12 + j))), .string (str (sg (zs.take 20))), .string ⟨#[]⟩]) (by simp [results, Tryz.results31, go_sem, *]) rfl HV.out
    · have hu2 : ¬ ((u : Int) = 0) := by omega
      clear hu
      by_cases ht : t = 0
      · subst ht
        have Ba : Below w2.heap.size w2 (w2.alloc (.cells #[.string (str root), .string ⟨#[]⟩, .string (str (revL.take (12 + j))), .string ⟨#[]⟩, .string ⟨#[]⟩] 49)) := (by repeat (first | with_reducible assumption | with_reducible exact Below.refl _ _ | with_reducible refine Below.setCell ?_ (by first | exact Nat.le_refl _ | (simp; done) | (simp; omega)) _ | with_reducible refine bal ?_ _ | with_reducible refine Below.alloc ?_ (by first | exact Nat.le_refl _ | (simp; done) | (simp; omega)) _ | with_reducible refine Below.drew ?_))
        have X0 := hide (Box.new w2 #[.string (str root), .string ⟨#[]⟩, .string (str (revL.take (12 + j))), .string ⟨#[]⟩, .string ⟨#[]⟩] 49)
        have Z0 := hide (HZ.out.later Ba)
        have B0 := hide (HB.out.trans (Ba.mono HB.out.size))
        clear Ba
        go_wp2_with fail
        refine (CM2.out _).mono ?_
        rintro e v1 ⟨rfl, b1⟩
        have X1 := hide (X0.out.later b1)
        have Z1 := hide (Z0.out.later b1)
        have B1 := hide (B0.out.trans (b1.mono B0.out.size))
        clear b1
        have xc := X1.out.c
        have xf := X1.out.f
        have X2 := hide (X1.out.set 4 (.string (str (mkP m))) (by simp))
        have Z2 := hide (Z1.out.of_block (w' := v1.setCell ⟨w2.heap.size, 4, none⟩ (.string (str (mkP m)))) (Below.heap_setCell _ _ _ _ (by show w.heap.size ≠ w2.heap.size; have := Hne.out; omega)))
        have B2 := hide (B1.out.setCell (p := ⟨w2.heap.size, 4, none⟩) (by show w.heap.size ≤ w2.heap.size; have := Hne.out; omega) (.string (str (mkP m))))
        have xcE := X2.out.c
        have zc := Z2.out.c
        have zf := Z2.out.f
        go_wp2_with fail
        obtain ⟨xs, xb⟩ := box_set5 Z2.out (.string (str root)) (.string ⟨#[]⟩) (.string (str (revL.take (12 + j)))) (.string ⟨#[]⟩) (.string (str (mkP m)))
        have xd := xs.c
        have HV : Hid (∃ x : Lk, Ending.returned (.agg #[.string (str root), .string ⟨#[]⟩, .string (str (revL.take (12 + j))), .string ⟨#[]⟩, .string (str (mkP m))]) = .returned (.agg (lkc x)) ∧ okX x ∧ Below w.heap.size w _) := ⟨⟨root, [], (revL.take (12 + j)), [], (mkP m)⟩, rfl, okX.mk' HP.out.1 ⟨HPP.out, rfl, HJ.out.1, rfl, HPP2.out⟩ (.inr HP2.out.1) (.inl HJ.out.2.1) ⟨(Nat.le_trans HP.out.2.2 (by decide)), (by simp), HJ.out.2.2, (by simp), (Nat.le_trans HP2.out.2.2 (by decide))⟩, B2.out.trans (xb _ (Nat.le_refl _))⟩
        clear xs xb zc zf xc xf xcE
        exact bodyPost_ret (v := .agg #[.string (str root), .string ⟨#[]⟩, .string (str (revL.take (12 + j))), .string ⟨#[]⟩, .string (str (mkP m))]) (by simp [results, Tryz.results31, go_sem, *]) rfl HV.out
      · have ht2 : ¬ ((t : Int) = 0) := by omega
        clear ht
        have Ba : Below w2.heap.size w2 (w2.alloc (.cells #[.string (str root), .string ⟨#[]⟩, .string (str (revL.take (12 + j))), .string ⟨#[]⟩, .string ⟨#[]⟩] 49)) := (by repeat (first | with_reducible assumption | with_reducible exact Below.refl _ _ | with_reducible refine Below.setCell ?_ (by first | exact Nat.le_refl _ | (simp; done) | (simp; omega)) _ | with_reducible refine bal ?_ _ | with_reducible refine Below.alloc ?_ (by first | exact Nat.le_refl _ | (simp; done) | (simp; omega)) _ | with_reducible refine Below.drew ?_))
        have X0 := hide (Box.new w2 #[.string (str root), .string ⟨#[]⟩, .string (str (revL.take (12 + j))), .string ⟨#[]⟩, .string ⟨#[]⟩] 49)
        have Z0 := hide (HZ.out.later Ba)
        have B0 := hide (HB.out.trans (Ba.mono HB.out.size))
        clear Ba
        have zc := Z0.out.c
        have zf := Z0.out.f
        go_wp2_with fail
        obtain ⟨xs, xb⟩ := box_set5 Z0.out (.string (str root)) (.string ⟨#[]⟩) (.string (str (revL.take (12 + j)))) (.string ⟨#[]⟩) (.string ⟨#[]⟩)
        have xd := xs.c
        have HV : Hid (∃ x : Lk, Ending.returned (.agg #[.string (str root), .string ⟨#[]⟩, .string (str (revL.take (12 + j))), .string ⟨#[]⟩, .string ⟨#[]⟩]) = .returned (.agg (lkc x)) ∧ okX x ∧ Below w.heap.size w _) := ⟨⟨root, [], (revL.take (12 + j)), [], []⟩, rfl, okX.mk' HP.out.1 ⟨HPP.out, rfl, HJ.out.1, rfl, rfl⟩ (.inl rfl) (.inl HJ.out.2.1) ⟨(Nat.le_trans HP.out.2.2 (by decide)), (by simp), HJ.out.2.2, (by simp), (by simp)⟩, B0.out.trans (xb _ (Nat.le_refl _))⟩
        clear xs xb zc zf
        exact bodyPost_ret (v := .agg #[.string (str root), .string ⟨#[]⟩, .string (str (revL.take (12 + j))), .string ⟨#[]⟩, .string ⟨#[]⟩]) (by simp [results, Tryz.results31, go_sem, *]) rfl HV.out
  · by_cases hu : u = 0
    · subst hu
      by_cases ht : t = 0
      · subst ht
        have Ba : Below w2.heap.size w2 (w2.alloc (.cells #[.string (str root), .string ⟨#[]⟩, .string ⟨#[]⟩, .string ⟨#[]⟩, .string ⟨#[]⟩] 49)) := (by repeat (first | with_reducible assumption | with_reducible exact Below.refl _ _ | with_reducible refine Below.setCell ?_ (by first | exact Nat.le_refl _ | (simp; done) | (simp; omega)) _ | with_reducible refine bal ?_ _ | with_reducible refine Below.alloc ?_ (by first | exact Nat.le_refl _ | (simp; done) | (simp; omega)) _ | with_reducible refine Below.drew ?_))
        have X0 := hide (Box.new w2 #[.string (str root), .string ⟨#[]⟩, .string ⟨#[]⟩, .string ⟨#[]⟩, .string ⟨#[]⟩] 49)
        have Z0 := hide (HZ.out.later Ba)
        have B0 := hide (HB.out.trans (Ba.mono HB.out.size))
        clear Ba
        go_wp2_with fail
        refine (CV.out _).mono ?_
        rintro e v1 ⟨⟨va, vb, vc, vp⟩, rfl, hok, b1⟩
        have X1 := hide (X0.out.later b1)
        have Z1 := hide (Z0.out.later b1)
        have B1 := hide (B0.out.trans (b1.mono B0.out.size))
        clear b1
        have hok := hide hok
        go_wp2_with fail
        refine (CT.out ⟨va, vb, vc, vp⟩ v1 hok.out).mono ?_
        rintro e v2 ⟨rfl, b2⟩
        have X2 := hide (X1.out.later b2)
        have Z2 := hide (Z1.out.later b2)
        have B2 := hide (B1.out.trans (b2.mono B1.out.size))
        clear b2
        have xc := X2.out.c
        have xf := X2.out.f
        have X3 := hide (X2.out.set 1 (.string (str (txt ⟨va, vb, vc, vp⟩))) (by simp))
        have Z3 := hide (Z2.out.of_block (w' := v2.setCell ⟨w2.heap.size, 1, none⟩ (.string (str (txt ⟨va, vb, vc, vp⟩)))) (Below.heap_setCell _ _ _ _ (by show w.heap.size ≠ w2.heap.size; have := Hne.out; omega)))
        have B3 := hide (B2.out.setCell (p := ⟨w2.heap.size, 1, none⟩) (by show w.heap.size ≤ w2.heap.size; have := Hne.out; omega) (.string (str (txt ⟨va, vb, vc, vp⟩))))
        go_wp2_with fail
        refine (HR.out _ B3.out).mono ?_
        rintro e v4 ⟨rfl, b4⟩
        have X4 := hide (X3.out.later b4)
        have Z4 := hide (Z3.out.later b4)
        have B4 := hide (B3.out.trans (b4.mono B3.out.size))
        clear b4
        clear xc xf
        have xc := X4.out.c
        have xf := X4.out.f
        have X5 := hide (X4.out.set 3 (.string (str (sg (zs.take 20)))) (by simp))
        have Z5 := hide (Z4.out.of_block (w' := v4.setCell ⟨w2.heap.size, 3, none⟩ (.string (str (sg (zs.take 20))))) (Below.heap_setCell _ _ _ _ (by show w.heap.size ≠ w2.heap.size; have := Hne.out; omega)))
        have B5 := hide (B4.out.setCell (p := ⟨w2.heap.size, 3, none⟩) (by show w.heap.size ≤ w2.heap.size; have := Hne.out; omega) (.string (str (sg (zs.take 20)))))
        go_wp2_with fail
        refine (CM2.out _).mono ?_
        rintro e v6 ⟨rfl, b6⟩
        have X6 := hide (X5.out.later b6)
        have Z6 := hide (Z5.out.later b6)
        have B6 := hide (B5.out.trans (b6.mono B5.out.size))
        clear b6
        clear xc xf
        have xc := X6.out.c
        have xf := X6.out.f
        have X7 := hide (X6.out.set 4 (.string (str (mkP m))) (by simp))
        have Z7 := hide (Z6.out.of_block (w' := v6.setCell ⟨w2.heap.size, 4, none⟩ (.string (str (mkP m)))) (Below.heap_setCell _ _ _ _ (by show w.heap.size ≠ w2.heap.size; have := Hne.out; omega)))
        have B7 := hide (B6.out.setCell (p := ⟨w2.heap.size, 4, none⟩) (by show w.heap.size ≤ w2.heap.size; have := Hne.out; omega) (.string (str (mkP m))))
        have xcE := X7.out.c
        have zc := Z7.out.c
        have zf := Z7.out.f
        go_wp2_with fail
        obtain ⟨xs, xb⟩ := box_set5 Z7.out (.string (str root)) (.string (str (txt ⟨va, vb, vc, vp⟩))) (.string ⟨#[]⟩) (.string (str (sg (zs.take 20)))) (.string (str (mkP m)))
        have xd := xs.c
        have HV : Hid (∃ x : Lk, Ending.returned (.agg #[.string (str root), .string (str (txt ⟨va, vb, vc, vp⟩)), .string ⟨#[]⟩, .string (str (sg (zs.take 20))), .string (str (mkP m))]) = .returned (.agg (lkc x)) ∧ okX x ∧ Below w.heap.size w _) := ⟨⟨root, (txt ⟨va, vb, vc, vp⟩), [], (sg (zs.take 20)), (mkP m)⟩, rfl, okX.mk' HP.out.1 ⟨HPP.out, (txt_pl _ hok.out).1, rfl, sg_plain _, HPP2.out⟩ (.inr HP2.out.1) (.inr (txt_pl _ hok.out).2) ⟨(Nat.le_trans HP.out.2.2 (by decide)), (ver_ok _ hok.out).2.2.2.2, (by simp), (by show (sg (zs.take 20)).length ≤ 80; unfold sg; rw [List.length_map, List.length_take]; omega), (Nat.le_trans HP2.out.2.2 (by decide))⟩, B7.out.trans (xb _ (Nat.le_refl _))⟩
        clear xs xb zc zf xc xf xcE
        exact bodyPost_ret (v := .agg #[.string (str root), .string (str (txt ⟨va, vb, vc, vp⟩)), .string ⟨#[]⟩, .string (str (sg (zs.take 20))), .string (str (mkP m))]) (by simp [results, Tryz.results31, go_sem, *]) rfl HV.out
      · have ht2 : ¬ ((t : Int) = 0) := by omega
        clear ht
        have Ba : Below w2.heap.size w2 (w2.alloc (.cells #[.string (str root), .string ⟨#[]⟩, .string ⟨#[]⟩, .string ⟨#[]⟩, .string ⟨#[]⟩] 49)) := (by repeat (first | with_reducible assumption | with_reducible exact Below.refl _ _ | with_reducible refine Below.setCell ?_ (by first | exact Nat.le_refl _ | (simp; done) | (simp; omega)) _ | with_reducible refine bal ?_ _ | with_reducible refine Below.alloc ?_ (by first | exact Nat.le_refl _ | (simp; done) | (simp; omega)) _ | with_reducible refine Below.drew ?_))
        have X0 := hide (Box.new w2 #[.string (str root), .string ⟨#[]⟩, .string ⟨#[]⟩, .string ⟨#[]⟩, .string ⟨#[]⟩] 49)
        have Z0 := hide (HZ.out.later Ba)
        have B0 := hide (HB.out.trans (Ba.mono HB.out.size))
        clear Ba
        go_wp2_with fail
        refine (CV.out _).mono ?_
        rintro e v1 ⟨⟨va, vb, vc, vp⟩, rfl, hok, b1⟩
        have X1 := hide (X0.out.later b1)
        have Z1 := hide (Z0.out.later b1)
        have B1 := hide (B0.out.trans (b1.mono B0.out.size))
        clear b1
        have hok := hide hok
        go_wp2_with fail
        refine (CT.out ⟨va, vb, vc, vp⟩ v1 hok.out).mono ?_
        rintro e v2 ⟨rfl, b2⟩
        have X2 := hide (X1.out.later b2)
        have Z2 := hide (Z1.out.later b2)
        have B2 := hide (B1.out.trans (b2.mono B1.out.size))
        clear b2
        have xc := X2.out.c
        have xf := X2.out.f
        have X3 := hide (X2.out.set 1 (.string (str (txt ⟨va, vb, vc, vp⟩))) (by simp))
        have Z3 := hide (Z2.out.of_block (w' := v2.setCell ⟨w2.heap.size, 1, none⟩ (.string (str (txt ⟨va, vb, vc, vp⟩)))) (Below.heap_setCell _ _ _ _ (by show w.heap.size ≠ w2.heap.size; have := Hne.out; omega)))
        have B3 := hide (B2.out.setCell (p := ⟨w2.heap.size, 1, none⟩) (by show w.heap.size ≤ w2.heap.size; have := Hne.out; omega) (.string (str (txt ⟨va, vb, vc, vp⟩))))
        go_wp2_with fail
        refine (HR.out _ B3.out).mono ?_
        rintro e v4 ⟨rfl, b4⟩
        have X4 := hide (X3.out.later b4)
        have Z4 := hide (Z3.out.later b4)
        have B4 := hide (B3.out.trans (b4.mono B3.out.size))
        clear b4
        clear xc xf
        have xc := X4.out.c
        have xf := X4.out.f
        have X5 := hide (X4.out.set 3 (.string (str (sg (zs.take 20)))) (by simp))
        have Z5 := hide (Z4.out.of_block (w' := v4.setCell ⟨w2.heap.size, 3, none⟩ (.string (str (sg (zs.take 20))))) (Below.heap_setCell _ _ _ _ (by show w.heap.size ≠ w2.heap.size; have := Hne.out; omega)))
        have B5 := hide (B4.out.setCell (p := ⟨w2.heap.size, 3, none⟩) (by show w.heap.size ≤ w2.heap.size; have := Hne.out; omega) (.string (str (sg (zs.take 20)))))
        have xcE := X5.out.c
        have zc := Z5.out.c
        have zf := Z5.out.f
        go_wp2_with fail
        obtain ⟨xs, xb⟩ := box_set5 Z5.out (.string (str root)) (.string (str (txt ⟨va, vb, vc, vp⟩))) (.string ⟨#[]⟩) (.string (str (sg (zs.take 20)))) (.string ⟨#[]⟩)
        have xd := xs.c
        have HV : Hid (∃ x : Lk, Ending.returned (.agg #[.string (str root), .string (str (txt ⟨va, vb, vc, vp⟩)), .string ⟨#[]⟩, .string (str (sg (zs.take 20))), .string ⟨#[]⟩]) = .returned (.agg (lkc x)) ∧ okX x ∧ Below w.heap.size w _) := ⟨⟨root, (txt ⟨va, vb, vc, vp⟩), [], (sg (zs.take 20)), []⟩, rfl, okX.mk' HP.out.1 ⟨HPP.out, (txt_pl _ hok.out).1, rfl, sg_plain _, rfl⟩ (.inl rfl) (.inr (txt_pl _ hok.out).2) ⟨(Nat.le_trans HP.out.2.2 (by decide)), (ver_ok _ hok.out).2.2.2.2, (by simp), (by show (sg (zs.take 20)).length ≤ 80; unfold sg; rw [List.length_map, List.length_take]; omega), (by simp)⟩, B5.out.trans (xb _ (Nat.le_refl _))⟩
        clear xs xb zc zf xc xf xcE
        exact bodyPost_ret (v := .agg #[.string (str root), .string (str (txt ⟨va, vb, vc, vp⟩)), .string ⟨#[]⟩, .string (str (sg (zs.take 20))), .string ⟨#[]⟩]) (by simp [results, Tryz.results31, go_sem, *]) rfl HV.out
    · have hu2 : ¬ ((u : Int) = 0) := by omega
      clear hu
      by_cases ht : t = 0
      · subst ht
        have Ba : Below w2.heap.size w2 (w2.alloc (.cells #[.string (str root), .string ⟨#[]⟩, .string ⟨#[]⟩, .string ⟨#[]⟩, .string ⟨#[]⟩] 49)) := (by repeat (first | with_reducible assumption | with_reducible exact Below.refl _ _ | with_reducible refine Below.setCell ?_ (by first | exact Nat.le_refl _ | (simp; done) | (simp; omega)) _ | with_reducible refine bal ?_ _ | with_reducible refine Below.alloc ?_ (by first | exact Nat.le_refl _ | (simp; done) | (simp; omega)) _ | with_reducible refine Below.drew ?_))
        have X0 := hide (Box.new w2 #[.string (str root), .string ⟨#[]⟩, .string ⟨#[]⟩, .string ⟨#[]⟩, .string ⟨#[]⟩] 49)
        have Z0 := hide (HZ.out.later Ba)
        have B0 := hide (HB.out.trans (Ba.mono HB.out.size))
        clear Ba
        go_wp2_with fail
        refine (CV.out _).mono ?_
        rintro e v1 ⟨⟨va, vb, vc, vp⟩, rfl, hok, b1⟩
        have X1 := hide (X0.out.later b1)
        have Z1 := hide (Z0.out.later b1)
        have B1 := hide (B0.out.trans (b1.mono B0.out.size))
        clear b1
        have hok := hide hok
        go_wp2_with fail
        refine (CT.out ⟨va, vb, vc, vp⟩ v1 hok.out).mono ?_
        rintro e v2 ⟨rfl, b2⟩
        have X2 := hide (X1.out.later b2)
        have Z2 := hide (Z1.out.later b2)
        have B2 := hide (B1.out.trans (b2.mono B1.out.size))
        clear b2
        have xc := X2.out.c
        have xf := X2.out.f
        have X3 := hide (X2.out.set 1 (.string (str (txt ⟨va, vb, vc, vp⟩))) (by simp))
        have Z3 := hide (Z2.out.of_block (w' := v2.setCell ⟨w2.heap.size, 1, none⟩ (.string (str (txt ⟨va, vb, vc, vp⟩)))) (Below.heap_setCell _ _ _ _ (by show w.heap.size ≠ w2.heap.size; have := Hne.out; omega)))
        have B3 := hide (B2.out.setCell (p := ⟨w2.heap.size, 1, none⟩) (by show w.heap.size ≤ w2.heap.size; have := Hne.out; omega) (.string (str (txt ⟨va, vb, vc, vp⟩))))
        go_wp2_with fail
        refine (CM2.out _).mono ?_
        rintro e v4 ⟨rfl, b4⟩
        have X4 := hide (X3.out.later b4)
        have Z4 := hide (Z3.out.later b4)
        have B4 := hide (B3.out.trans (b4.mono B3.out.size))
        clear b4
        clear xc xf
        have xc := X4.out.c
        have xf := X4.out.f
        have X5 := hide (X4.out.set 4 (.string (str (mkP m))) (by simp))
        have Z5 := hide (Z4.out.of_block (w' := v4.setCell ⟨w2.heap.size, 4, none⟩ (.string (str (mkP m)))) (Below.heap_setCell _ _ _ _ (by show w.heap.size ≠ w2.heap.size; have := Hne.out; omega)))
        have B5 := hide (B4.out.setCell (p := ⟨w2.heap.size, 4, none⟩) (by show w.heap.size ≤ w2.heap.size; have := Hne.out; omega) (.string (str (mkP m))))
        have xcE := X5.out.c
        have zc := Z5.out.c
        have zf := Z5.out.f
        go_wp2_with fail
        obtain ⟨xs, xb⟩ := box_set5 Z5.out (.string (str root)) (.string (str (txt ⟨va, vb, vc, vp⟩))) (.string ⟨#[]⟩) (.string ⟨#[]⟩) (.string (str (mkP m)))
        have xd := xs.c
        have HV : Hid (∃ x : Lk, Ending.returned (.agg #[.string (str root), .string (str (txt ⟨va, vb, vc, vp⟩)), .string ⟨#[]⟩, .string ⟨#[]⟩, .string (str (mkP m))]) = .returned (.agg (lkc x)) ∧ okX x ∧ Below w.heap.size w _) := ⟨⟨root, (txt ⟨va, vb, vc, vp⟩), [], [], (mkP m)⟩, rfl, okX.mk' HP.out.1 ⟨HPP.out, (txt_pl _ hok.out).1, rfl, rfl, HPP2.out⟩ (.inr HP2.out.1) (.inr (txt_pl _ hok.out).2) ⟨(Nat.le_trans HP.out.2.2 (by decide)), (ver_ok _ hok.out).2.2.2.2, (by simp), (by simp), (Nat.le_trans HP2.out.2.2 (by decide))⟩, B5.out.trans (xb _ (Nat.le_refl _))⟩
        clear xs xb zc zf xc xf xcE
        exact bodyPost_ret (v := .agg #[.string (str root), .string (str (txt ⟨va, vb, vc, vp⟩)), .string ⟨#[]⟩, .string ⟨#[]⟩, .string (str (mkP m))]) (by simp [results, Tryz.results31, go_sem, *]) rfl HV.out
      · have ht2 : ¬ ((t : Int) = 0) := by omega
        clear ht
        have Ba : Below w2.heap.size w2 (w2.alloc (.cells #[.string (str root), .string ⟨#[]⟩, .string ⟨#[]⟩, .string ⟨#[]⟩, .string ⟨#[]⟩] 49)) := (by repeat (first | with_reducible assumption | with_reducible exact Below.refl _ _ | with_reducible refine Below.setCell ?_ (by first | exact Nat.le_refl _ | (simp; done) | (simp; omega)) _ | with_reducible refine bal ?_ _ | with_reducible refine Below.alloc ?_ (by first | exact Nat.le_refl _ | (simp; done) | (simp; omega)) _ | with_reducible refine Below.drew ?_))
        have X0 := hide (Box.new w2 #[.string (str root), .string ⟨#[]⟩, .string ⟨#[]⟩, .string ⟨#[]⟩, .string ⟨#[]⟩] 49)
        have Z0 := hide (HZ.out.later Ba)
        have B0 := hide (HB.out.trans (Ba.mono HB.out.size))
        clear Ba
        go_wp2_with fail
        refine (CV.out _).mono ?_
        rintro e v1 ⟨⟨va, vb, vc, vp⟩, rfl, hok, b1⟩
        have X1 := hide (X0.out.later b1)
        have Z1 := hide (Z0.out.later b1)
        have B1 := hide (B0.out.trans (b1.mono B0.out.size))
        clear b1
        have hok := hide hok
        go_wp2_with fail
        refine (CT.out ⟨va, vb, vc, vp⟩ v1 hok.out).mono ?_
        rintro e v2 ⟨rfl, b2⟩
        have X2 := hide (X1.out.later b2)
        have Z2 := hide (Z1.out.later b2)
        have B2 := hide (B1.out.trans (b2.mono B1.out.size))
        clear b2
        have xc := X2.out.c
        have xf := X2.out.f
        have X3 := hide (X2.out.set 1 (.string (str (txt ⟨va, vb, vc, vp⟩))) (by simp))
        have Z3 := hide (Z2.out.of_block (w' := v2.setCell ⟨w2.heap.size, 1, none⟩ (.string (str (txt ⟨va, vb, vc, vp⟩)))) (Below.heap_setCell _ _ _ _ (by show w.heap.size ≠ w2.heap.size; have := Hne.out; omega)))
        have B3 := hide (B2.out.setCell (p := ⟨w2.heap.size, 1, none⟩) (by show w.heap.size ≤ w2.heap.size; have := Hne.out; omega) (.string (str (txt ⟨va, vb, vc, vp⟩))))
        have xcE := X3.out.c
        have zc := Z3.out.c
        have zf := Z3.out.f
        go_wp2_with fail
        obtain ⟨xs, xb⟩ := box_set5 Z3.out (.string (str root)) (.string (str (txt ⟨va, vb, vc, vp⟩))) (.string ⟨#[]⟩) (.string ⟨#[]⟩) (.string ⟨#[]⟩)
        have xd := xs.c
        have HV : Hid (∃ x : Lk, Ending.returned (.agg #[.string (str root), .string (str (txt ⟨va, vb, vc, vp⟩)), .string ⟨#[]⟩, .string ⟨#[]⟩, .string ⟨#[]⟩]) = .returned (.agg (lkc x)) ∧ okX x ∧ Below w.heap.size w _) := ⟨⟨root, (txt ⟨va, vb, vc, vp⟩), [], [], []⟩, rfl, okX.mk' HP.out.1 ⟨HPP.out, (txt_pl _ hok.out).1, rfl, rfl, rfl⟩ (.inl rfl) (.inr (txt_pl _ hok.out).2) ⟨(Nat.le_trans HP.out.2.2 (by decide)), (ver_ok _ hok.out).2.2.2.2, (by simp), (by simp), (by simp)⟩, B3.out.trans (xb _ (Nat.le_refl _))⟩
        clear xs xb zc zf xc xf xcE
        exact bodyPost_ret (v := .agg #[.string (str root), .string (str (txt ⟨va, vb, vc, vp⟩)), .string ⟨#[]⟩, .string ⟨#[]⟩, .string ⟨#[]⟩]) (by simp [results, Tryz.results31, go_sem, *]) rfl HV.out
  · by_cases hu : u = 0
    · subst hu
      by_cases ht : t = 0
      · subst ht
        have Ba : Below w2.heap.size w2 (w2.alloc (.cells #[.string (str root), .string ⟨#[]⟩, .string ⟨#[]⟩, .string ⟨#[]⟩, .string ⟨#[]⟩] 49)) := (by repeat (first | with_reducible assumption | with_reducible exact Below.refl _ _ | with_reducible refine Below.setCell ?_ (by first | exact Nat.le_refl _ | (simp; done) | (simp; omega)) _ | with_reducible refine bal ?_ _ | with_reducible refine Below.alloc ?_ (by first | exact Nat.le_refl _ | (simp; done) | (simp; omega)) _ | with_reducible refine Below.drew ?_))
        have X0 := hide (Box.new w2 #[.string (str root), .string ⟨#[]⟩, .string ⟨#[]⟩, .string ⟨#[]⟩, .string ⟨#[]⟩] 49)
        have Z0 := hide (HZ.out.later Ba)
        have B0 := hide (HB.out.trans (Ba.mono HB.out.size))
        clear Ba
        go_wp2_with fail
        refine (CV.out _).mono ?_
        rintro e v1 ⟨⟨va, vb, vc, vp⟩, rfl, hok, b1⟩
        have X1 := hide (X0.out.later b1)
        have Z1 := hide (Z0.out.later b1)
        have B1 := hide (B0.out.trans (b1.mono B0.out.size))
        clear b1
        have hok := hide hok
        go_wp2_with fail
        refine (CT.out ⟨va, vb, vc, vp⟩ v1 hok.out).mono ?_
        rintro e v2 ⟨rfl, b2⟩
        have X2 := hide (X1.out.later b2)
        have Z2 := hide (Z1.out.later b2)
        have B2 := hide (B1.out.trans (b2.mono B1.out.size))
        clear b2
        have xc := X2.out.c
        have xf := X2.out.f
        have X3 := hide (X2.out.set 1 (.string (str (txt ⟨va, vb, vc, vp⟩))) (by simp))
        have Z3 := hide (Z2.out.of_block (w' := v2.setCell ⟨w2.heap.size, 1, none⟩ (.string (str (txt ⟨va, vb, vc, vp⟩)))) (Below.heap_setCell _ _ _ _ (by show w.heap.size ≠ w2.heap.size; have := Hne.out; omega)))
        have B3 := hide (B2.out.setCell (p := ⟨w2.heap.size, 1, none⟩) (by show w.heap.size ≤ w2.heap.size; have := Hne.out; omega) (.string (str (txt ⟨va, vb, vc, vp⟩))))
        have X4 := hide (X3.out.set 2 (.string (str (revL.take (12 + j)))) (by simp))
        have Z4 := hide (Z3.out.of_block (w' := (v2.setCell ⟨w2.heap.size, 1, none⟩ (.string (str (txt ⟨va, vb, vc, vp⟩)))).setCell ⟨w2.heap.size, 2, none⟩ (.string (str (revL.take (12 + j))))) (Below.heap_setCell _ _ _ _ (by show w.heap.size ≠ w2.heap.size; have := Hne.out; omega)))
        have B4 := hide (B3.out.setCell (p := ⟨w2.heap.size, 2, none⟩) (by show w.heap.size ≤ w2.heap.size; have := Hne.out; omega) (.string (str (revL.take (12 + j)))))
        go_wp2_with fail
        refine (HR.out _ B4.out).mono ?_
        rintro e v5 ⟨rfl, b5⟩
        have X5 := hide (X4.out.later b5)
        have Z5 := hide (Z4.out.later b5)
        have B5 := hide (B4.out.trans (b5.mono B4.out.size))
        clear b5
        clear xc xf
        have xc := X5.out.c
        have xf := X5.out.f
        have X6 := hide (X5.out.set 3 (.string (str (sg (zs.take 20)))) (by simp))
        have Z6 := hide (Z5.out.of_block (w' := v5.setCell ⟨w2.heap.size, 3, none⟩ (.string (str (sg (zs.take 20))))) (Below.heap_setCell _ _ _ _ (by show w.heap.size ≠ w2.heap.size; have := Hne.out; omega)))
        have B6 := hide (B5.out.setCell (p := ⟨w2.heap.size, 3, none⟩) (by show w.heap.size ≤ w2.heap.size; have := Hne.out; omega) (.string (str (sg (zs.take 20)))))
        go_wp2_with fail
        refine (CM2.out _).mono ?_
        rintro e v7 ⟨rfl, b7⟩
        have X7 := hide (X6.out.later b7)
        have Z7 := hide (Z6.out.later b7)
        have B7 := hide (B6.out.trans (b7.mono B6.out.size))
        clear b7
        clear xc xf
        have xc := X7.out.c
        have xf := X7.out.f
        have X8 := hide (X7.out.set 4 (.string (str (mkP m))) (by simp))
        have Z8 := hide (Z7.out.of_block (w' := v7.setCell ⟨w2.heap.size, 4, none⟩ (.string (str (mkP m)))) (Below.heap_setCell _ _ _ _ (by show w.heap.size ≠ w2.heap.size; have := Hne.out; omega)))
        have B8 := hide (B7.out.setCell (p := ⟨w2.heap.size, 4, none⟩) (by show w.heap.size ≤ w2.heap.size; have := Hne.out; omega) (.string (str (mkP m))))
        have xcE := X8.out.c
        have zc := Z8.out.c
        have zf := Z8.out.f
        go_wp2_with fail
        obtain ⟨xs, xb⟩ := box_set5 Z8.out (.string (str root)) (.string (str (txt ⟨va, vb, vc, vp⟩))) (.string (str (revL.take (12 + j)))) (.string (str (sg (zs.take 20)))) (.string (str (mkP m)))
        have xd := xs.c
        have HV : Hid (∃ x : Lk, Ending.returned (.agg #[.string (str root), .string (str (txt ⟨va, vb, vc, vp⟩)), .string (str (revL.take (12 + j))), .string (str (sg (zs.take 20))), .string (str (mkP m))]) = .returned (.agg (lkc x)) ∧ okX x ∧ Below w.heap.size w _) := ⟨⟨root, (txt ⟨va, vb, vc, vp⟩), (revL.take (12 + j)), (sg (zs.take 20)), (mkP m)⟩, rfl, okX.mk' HP.out.1 ⟨HPP.out, (txt_pl _ hok.out).1, HJ.out.1, sg_plain _, HPP2.out⟩ (.inr HP2.out.1) (.inl HJ.out.2.1) ⟨(Nat.le_trans HP.out.2.2 (by decide)), (ver_ok _ hok.out).2.2.2.2, HJ.out.2.2, (by show (sg (zs.take 20)).length ≤ 80; unfold sg; rw [List.length_map, List.length_take]; omega), (Nat.le_trans HP2.out.2.2 (by decide))⟩, B8.out.trans (xb _ (Nat.le_refl _))⟩
        clear xs xb zc zf xc xf xcE
        exact bodyPost_ret (v := .agg #[.string (str root), .string (str (txt ⟨va, vb, vc, vp⟩)), .string (str (revL.take (12 + j))), .string (str (sg (zs.take 20))), .string (str (mkP m))]) (by simp [results, Tryz.results31, go_sem, *]) rfl HV.out
      · have ht2 : ¬ ((t : Int) = 0) := by omega
        clear ht
        have Ba : Below w2.heap.size w2 (w2.alloc (.cells #[.string (str root), .string ⟨#[]⟩, .string ⟨#[]⟩, .string ⟨#[]⟩, .string ⟨#[]⟩] 49)) := (by repeat (first | with_reducible assumption | with_reducible exact Below.refl _ _ | with_reducible refine Below.setCell ?_ (by first | exact Nat.le_refl _ | (simp; done) | (simp; omega)) _ | with_reducible refine bal ?_ _ | with_reducible refine Below.alloc ?_ (by first | exact Nat.le_refl _ | (simp; done) | (simp; omega)) _ | with_reducible refine Below.drew ?_))
        have X0 := hide (Box.new w2 #[.string (str root), .string ⟨#[]⟩, .string ⟨#[]⟩, .string ⟨#[]⟩, .string ⟨#[]⟩] 49)
        have Z0 := hide (HZ.out.later Ba)
        have B0 := hide (HB.out.trans (Ba.mono HB.out.size))
        clear Ba
        go_wp2_with fail
        refine (CV.out _).mono ?_
        rintro e v1 ⟨⟨va, vb, vc, vp⟩, rfl, hok, b1⟩
        have X1 := hide (X0.out.later b1)
        have Z1 := hide (Z0.out.later b1)
        have B1 := hide (B0.out.trans (b1.mono B0.out.size))
        clear b1
        have hok := hide hok
        go_wp2_with fail
        refine (CT.out ⟨va, vb, vc, vp⟩ v1 hok.out).mono ?_
        rintro e v2 ⟨rfl, b2⟩
        have X2 := hide (X1.out.later b2)
        have Z2 := hide (Z1.out.later b2)
        have B2 := hide (B1.out.trans (b2.mono B1.out.size))
        clear b2
        have xc := X2.out.c
        have xf := X2.out.f
        have X3 := hide (X2.out.set 1 (.string (str (txt ⟨va, vb, vc, vp⟩))) (by simp))
        have Z3 := hide (Z2.out.of_block (w' := v2.setCell ⟨w2.heap.size, 1, none⟩ (.string (str (txt ⟨va, vb, vc, vp⟩)))) (Below.heap_setCell _ _ _ _ (by show w.heap.size ≠ w2.heap.size; have := Hne.out; omega)))
        have B3 := hide (B2.out.setCell (p := ⟨w2.heap.size, 1, none⟩) (by show w.heap.size ≤ w2.heap.size; have := Hne.out; omega) (.string (str (txt ⟨va, vb, vc, vp⟩))))
        have X4 := hide (X3.out.set 2 (.string (str (revL.take (12 + j)))) (by simp))
        have Z4 := hide (Z3.out.of_block (w' := (v2.setCell ⟨w2.heap.size, 1, none⟩ (.string (str (txt ⟨va, vb, vc, vp⟩)))).setCell ⟨w2.heap.size, 2, none⟩ (.string (str (revL.take (12 + j))))) (Below.heap_setCell _ _ _ _ (by show w.heap.size ≠ w2.heap.size; have := Hne.out; omega)))
        have B4 := hide (B3.out.setCell (p := ⟨w2.heap.size, 2, none⟩) (by show w.heap.size ≤ w2.heap.size; have := Hne.out; omega) (.string (str (revL.take (12 + j)))))
        go_wp2_with fail
        refine (HR.out _ B4.out).mono ?_
        rintro e v5 ⟨rfl, b5⟩
        have X5 := hide (X4.out.later b5)
        have Z5 := hide (Z4.out.later b5)
        have B5 := hide (B4.out.trans (b5.mono B4.out.size))
        clear b5
        clear xc xf
        have xc := X5.out.c
        have xf := X5.out.f
        have X6 := hide (X5.out.set 3 (.string (str (sg (zs.take 20)))) (by simp))
        have Z6 := hide (Z5.out.of_block (w' := v5.setCell ⟨w2.heap.size, 3, none⟩ (.string (str (sg (zs.take 20))))) (Below.heap_setCell _ _ _ _ (by show w.heap.size ≠ w2.heap.size; have := Hne.out; omega)))
        have B6 := hide (B5.out.setCell (p := ⟨w2.heap.size, 3, none⟩) (by show w.heap.size ≤ w2.heap.size; have := Hne.out; omega) (.string (str (sg (zs.take 20)))))
        have xcE := X6.out.c
        have zc := Z6.out.c
        have zf := Z6.out.f
        go_wp2_with fail
        obtain ⟨xs, xb⟩ := box_set5 Z6.out (.string (str root)) (.string (str (txt ⟨va, vb, vc, vp⟩))) (.string (str (revL.take (12 + j)))) (.string (str (sg (zs.take 20)))) (.string ⟨#[]⟩)
        have xd := xs.c
        have HV : Hid (∃ x : Lk, Ending.returned (.agg #[.string (str root), .string (str (txt ⟨va, vb, vc, vp⟩)), .string (str (revL.take (12 + j))), .string (str (sg (zs.take 20))), .string ⟨#[]⟩]) = .returned (.agg (lkc x)) ∧ okX x ∧ Below w.heap.size w _) := ⟨⟨root, (txt ⟨va, vb, vc, vp⟩), (revL.take (12 + j)), (sg (zs.take 20)), []⟩, rfl, okX.mk' HP.out.1 ⟨HPP.out, (txt_pl _ hok.out).1, HJ.out.1, sg_plain _, rfl⟩ (.inl rfl) (.inl HJ.out.2.1) ⟨(Nat.le_trans HP.out.2.2 (by decide)), (ver_ok _ hok.out).2.2.2.2, HJ.out.2.2, (by show (sg (zs.take 20)).length ≤ 80; unfold sg; rw [List.length_map, List.length_take]; omega), (by simp)⟩, B6.out.trans (xb _ (Nat.le_refl _))⟩
        clear xs xb zc zf xc xf xcE
        exact bodyPost_ret (v := .agg #[.string (str root), .string (str (txt ⟨va, vb, vc, vp⟩)), .string (str (revL.take (12 + j))), .string (str (sg (zs.take 20))), .string ⟨#[]⟩]) (by simp [results, Tryz.results31, go_sem, *]) rfl HV.out
    · have hu2 : ¬ ((u : Int) = 0) := by omega
      clear hu
      by_cases ht : t = 0
      · subst ht
        have Ba : Below w2.heap.size w2 (w2.alloc (.cells #[.string (str root), .string ⟨#[]⟩, .string ⟨#[]⟩, .string ⟨#[]⟩, .string ⟨#[]⟩] 49)) := (by repeat (first | with_reducible assumption | with_reducible exact Below.refl _ _ | with_reducible refine Below.setCell ?_ (by first | exact Nat.le_refl _ | (simp; done) | (simp; omega)) _ | with_reducible refine bal ?_ _ | with_reducible refine Below.alloc ?_ (by first | exact Nat.le_refl _ | (simp; done) | (simp; omega)) _ | with_reducible refine Below.drew ?_))
        have X0 := hide (Box.new w2 #[.string (str root), .string ⟨#[]⟩, .string ⟨#[]⟩, .string ⟨#[]⟩, .string ⟨#[]⟩] 49)
        have Z0 := hide (HZ.out.later Ba)
        have B0 := hide (HB.out.trans (Ba.mono HB.out.size))
        clear Ba
        go_wp2_with fail
        refine (CV.out _).mono ?_
        rintro e v1 ⟨⟨va, vb, vc, vp⟩, rfl, hok, b1⟩
        have X1 := hide (X0.out.later b1)
        have Z1 := hide (Z0.out.later b1)
        have B1 := hide (B0.out.trans (b1.mono B0.out.size))
        clear b1
        have hok := hide hok
        go_wp2_with fail
        refine (CT.out ⟨va, vb, vc, vp⟩ v1 hok.out).mono ?_
        rintro e v2 ⟨rfl, b2⟩
        have X2 := hide (X1.out.later b2)
        have Z2 := hide (Z1.out.later b2)
        have B2 := hide (B1.out.trans (b2.mono B1.out.size))
        clear b2
        have xc := X2.out.c
        have xf := X2.out.f
        have X3 := hide (X2.out.set 1 (.string (str (txt ⟨va, vb, vc, vp⟩))) (by simp))
        have Z3 := hide (Z2.out.of_block (w' := v2.setCell ⟨w2.heap.size, 1, none⟩ (.string (str (txt ⟨va, vb, vc, vp⟩)))) (Below.heap_setCell _ _ _ _ (by show w.heap.size ≠ w2.heap.size; have := Hne.out; omega)))
        have B3 := hide (B2.out.setCell (p := ⟨w2.heap.size, 1, none⟩) (by show w.heap.size ≤ w2.heap.size; have := Hne.out; omega) (.string (str (txt ⟨va, vb, vc, vp⟩))))
        have X4 := hide (X3.out.set 2 (.string (str (revL.take (12 + j)))) (by simp))
        have Z4 := hide (Z3.out.of_block (w' := (v2.setCell ⟨w2.heap.size, 1, none⟩ (.string (str (txt ⟨va, vb, vc, vp⟩)))).setCell ⟨w2.heap.size, 2, none⟩ (.string (str (revL.take (12 + j))))) (Below.heap_setCell _ _ _ _ (by show w.heap.size ≠ w2.heap.size; have := Hne.out; omega)))
        have B4 := hide (B3.out.setCell (p := ⟨w2.heap.size, 2, none⟩) (by show w.heap.size ≤ w2.heap.size; have := Hne.out; omega) (.string (str (revL.take (12 + j)))))
        go_wp2_with fail
        refine (CM2.out _).mono ?_
        rintro e v5 ⟨rfl, b5⟩
        have X5 := hide (X4.out.later b5)
        have Z5 := hide (Z4.out.later b5)
        have B5 := hide (B4.out.trans (b5.mono B4.out.size))
        clear b5
        clear xc xf
        have xc := X5.out.c
        have xf := X5.out.f
        have X6 := hide (X5.out.set 4 (.string (str (mkP m))) (by simp))
        have Z6 := hide (Z5.out.of_block (w' := v5.setCell ⟨w2.heap.size, 4, none⟩ (.string (str (mkP m)))) (Below.heap_setCell _ _ _ _ (by show w.heap.size ≠ w2.heap.size; have := Hne.out; omega)))
        have B6 := hide (B5.out.setCell (p := ⟨w2.heap.size, 4, none⟩) (by show w.heap.size ≤ w2.heap.size; have := Hne.out; omega) (.string (str (mkP m))))
        have xcE := X6.out.c
        have zc := Z6.out.c
        have zf := Z6.out.f
        go_wp2_with fail
        obtain ⟨xs, xb⟩ := box_set5 Z6.out (.string (str root)) (.string (str (txt ⟨va, vb, vc, vp⟩))) (.string (str (revL.take (12 + j)))) (.string ⟨#[]⟩) (.string (str (mkP m)))
        have xd := xs.c
        have HV : Hid (∃ x : Lk, Ending.returned (.agg #[.string (str root), .string (str (txt ⟨va, vb, vc, vp⟩)), .string (str (revL.take (12 + j))), .string ⟨#[]⟩, .string (str (mkP m))]) = .returned (.agg (lkc x)) ∧ okX x ∧ Below w.heap.size w _) := ⟨⟨root, (txt ⟨va, vb, vc, vp⟩), (revL.take (12 + j)), [], (mkP m)⟩, rfl, okX.mk' HP.out.1 ⟨HPP.out, (txt_pl _ hok.out).1, HJ.out.1, rfl, HPP2.out⟩ (.inr HP2.out.1) (.inl HJ.out.2.1) ⟨(Nat.le_trans HP.out.2.2 (by decide)), (ver_ok _ hok.out).2.2.2.2, HJ.out.2.2, (by simp), (Nat.le_trans HP2.out.2.2 (by decide))⟩, B6.out.trans (xb _ (Nat.le_refl _))⟩
        clear xs xb zc zf xc xf xcE
        exact bodyPost_ret (v := .agg #[.string (str root), .string (str (txt ⟨va, vb, vc, vp⟩)), .string (str (revL.take (12 + j))), .string ⟨#[]⟩, .string (str (mkP m))]) (by simp [results, Tryz.results31, go_sem, *]) rfl HV.out
      · have ht2 : ¬ ((t : Int) = 0) := by omega
        clear ht
        have Ba : Below w2.heap.size w2 (w2.alloc (.cells #[.string (str root), .string ⟨#[]⟩, .string ⟨#[]⟩, .string ⟨#[]⟩, .string ⟨#[]⟩] 49)) := (by repeat (first | with_reducible assumption | with_reducible exact Below.refl _ _ | with_reducible refine Below.setCell ?_ (by first | exact Nat.le_refl _ | (simp; done) | (simp; omega)) _ | with_reducible refine bal ?_ _ | with_reducible refine Below.alloc ?_ (by first | exact Nat.le_refl _ | (simp; done) | (simp; omega)) _ | with_reducible refine Below.drew ?_))
        have X0 := hide (Box.new w2 #[.string (str root), .string ⟨#[]⟩, .string ⟨#[]⟩, .string ⟨#[]⟩, .string ⟨#[]⟩] 49)
        have Z0 := hide (HZ.out.later Ba)
        have B0 := hide (HB.out.trans (Ba.mono HB.out.size))
        clear Ba
        go_wp2_with fail
        refine (CV.out _).mono ?_
        rintro e v1 ⟨⟨va, vb, vc, vp⟩, rfl, hok, b1⟩
        have X1 := hide (X0.out.later b1)
        have Z1 := hide (Z0.out.later b1)
        have B1 := hide (B0.out.trans (b1.mono B0.out.size))
        clear b1
        have hok := hide hok
        go_wp2_with fail
        refine (CT.out ⟨va, vb, vc, vp⟩ v1 hok.out).mono ?_
        rintro e v2 ⟨rfl, b2⟩
        have X2 := hide (X1.out.later b2)
        have Z2 := hide (Z1.out.later b2)
        have B2 := hide (B1.out.trans (b2.mono B1.out.size))
        clear b2
        have xc := X2.out.c
        have xf := X2.out.f
        have X3 := hide (X2.out.set 1 (.string (str (txt ⟨va, vb, vc, vp⟩))) (by simp))
        have Z3 := hide (Z2.out.of_block (w' := v2.setCell ⟨w2.heap.size, 1, none⟩ (.string (str (txt ⟨va, vb, vc, vp⟩)))) (Below.heap_setCell _ _ _ _ (by show w.heap.size ≠ w2.heap.size; have := Hne.out; omega)))
        have B3 := hide (B2.out.setCell (p := ⟨w2.heap.size, 1, none⟩) (by show w.heap.size ≤ w2.heap.size; have := Hne.out; omega) (.string (str (txt ⟨va, vb, vc, vp⟩))))
        have X4 := hide (X3.out.set 2 (.string (str (revL.take (12 + j)))) (by simp))
        have Z4 := hide (Z3.out.of_block (w' := (v2.setCell ⟨w2.heap.size, 1, none⟩ (.string (str (txt ⟨va, vb, vc, vp⟩)))).setCell ⟨w2.heap.size, 2, none⟩ (.string (str (revL.take (12 + j))))) (Below.heap_setCell _ _ _ _ (by show w.heap.size ≠ w2.heap.size; have := Hne.out; omega)))
        have B4 := hide (B3.out.setCell (p := ⟨w2.heap.size, 2, none⟩) (by show w.heap.size ≤ w2.heap.size; have := Hne.out; omega) (.string (str (revL.take (12 + j)))))
        have xcE := X4.out.c
        have zc := Z4.out.c
        have zf := Z4.out.f
        go_wp2_with fail
        obtain ⟨xs, xb⟩ := box_set5 Z4.out (.string (str root)) (.string (str (txt ⟨va, vb, vc, vp⟩))) (.string (str (revL.take (12 + j)))) (.string ⟨#[]⟩) (.string ⟨#[]⟩)
        have xd := xs.c
        have HV : Hid (∃ x : Lk, Ending.returned (.agg #[.string (str root), .string (str (txt ⟨va, vb, vc, vp⟩)), .string (str (revL.take (12 + j))), .string ⟨#[]⟩, .string ⟨#[]⟩]) = .returned (.agg (lkc x)) ∧ okX x ∧ Below w.heap.size w _) := ⟨⟨root, (txt ⟨va, vb, vc, vp⟩), (revL.take (12 + j)), [], []⟩, rfl, okX.mk' HP.out.1 ⟨HPP.out, (txt_pl _ hok.out).1, HJ.out.1, rfl, rfl⟩ (.inl rfl) (.inl HJ.out.2.1) ⟨(Nat.le_trans HP.out.2.2 (by decide)), (ver_ok _ hok.out).2.2.2.2, HJ.out.2.2, (by simp), (by simp)⟩, B4.out.trans (xb _ (Nat.le_refl _))⟩
        clear xs xb zc zf xc xf xcE
        exact bodyPost_ret (v := .agg #[.string (str root), .string (str (txt ⟨va, vb, vc, vp⟩)), .string (str (revL.take (12 + j))), .string ⟨#[]⟩, .string ⟨#[]⟩]) (by simp [results, Tryz.results31, go_sem, *]) rfl HV.out

end Go.Proofs.YtnmmhihfnphjeaaGreatDoor.B
