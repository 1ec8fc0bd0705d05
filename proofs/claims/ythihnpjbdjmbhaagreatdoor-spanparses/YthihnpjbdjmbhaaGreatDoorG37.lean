/-
  Contract of the reference's wild.
-/
import Derived.Test.YthihnpjbdjmbhaaGreatDoorG35
import Derived.Test.YthihnpjbdjmbhaaGreatDoorG31

namespace Go.Proofs.YthihnpjbdjmbhaaGreatDoor
set_option linter.unusedSimpArgs false
set_option linter.unusedVariables false
open Go.RowKit Go.Vr Go.Sort Go.Tx Go.Lib
attribute [local go_sem] setCellDrewN allocDrewN

theorem numR_bd (l : Bs) : 0 ≤ Tx.numR l ∧ Tx.numR l ≤ 1000000000 := by
  unfold Tx.numR
  split
  · rename_i h
    have h2 := h
    unfold okNum at h2
    simp only [Bool.and_eq_true, decide_eq_true_eq] at h2
    obtain ⟨⟨⟨h3, h4⟩, h5⟩, h6⟩ := h2
    have := numVal_lt l h6
    have := numVal_nonneg l h6
    have : (10 : Int) ^ l.length ≤ 10 ^ 9 := by
      have h := Nat.pow_le_pow_right (n := 10) (by omega) h4
      exact_mod_cast h
    omega
  · omega
theorem ext2 (s : ByteArray) (p : Nat) : (s.extract p s.size).data.toList = s.data.toList.drop p := by
  rw [ext_list, List.take_of_length_le (by rw [List.length_drop, len_eq]; exact Nat.le_refl _)]
def WildR (W w' : World) (o : Option (List Sp.S)) (e : Ending) : Prop := ∃ q : Pt, e = .returned (.tuple #[q.val, .bool o.isSome]) ∧ Hid (∀ l, o = some l → okPt q ∧ Sp.nrm [pS q] = l) ∧ RowKit.Below W.heap.size W w'
theorem refW_no {s : Bs} (h : ¬ (4 ≤ s.length ∧ s.head? = some 118 ∧ s.drop (s.length - 2) = [46, 120])) : Sp.refW s = none := by
  unfold Sp.refW; rw [if_neg h]
theorem first_ok {a b : Int} (ha : 0 ≤ a ∧ a ≤ 999999) (hb : 0 ≤ b ∧ b ≤ 999999) : (V.mk a b 0 ⟨#[48]⟩).ok = true := by
  have := Sp.ok_first ha hb (c := 0) (by omega) (⟨a, b, 0, ⟨#[48]⟩⟩, false) rfl
  exact this
theorem wild_fin {a b : Int} (ha : 0 ≤ a ∧ a ≤ 999999) (hb : 0 ≤ b ∧ b ≤ 999999) (B : Sp.C) (hB : Sp.okC B) : okPt (pt (some (⟨a, b, 0, ⟨#[48]⟩⟩, false), B)) ∧ Sp.nrm [pS (pt (some (⟨a, b, 0, ⟨#[48]⟩⟩, false), B))] = Sp.only Sp.cmpC (Sp.firstC a b 0) B := by
  have hs : Sp.okS (some ((⟨a, b, 0, ⟨#[48]⟩⟩ : V), false), B) := ⟨⟨_, rfl⟩, Sp.ok_v (first_ok ha hb) false, hB⟩
  refine ⟨okPt_pt hs, ?_⟩
  rw [pS_pt hs, Sp.nrm_one]
  rfl

theorem tw_take {l : Bs} {k : Nat} (h : ∀ c ∈ l.take k, c ≠ (46 : UInt8)) (hs : ∀ c, l[k]? = some c → c = 46) : l.takeWhile (· != 46) = l.take k := by
  conv => lhs; rw [← List.take_append_drop k l]
  have h1 : ∀ c ∈ l.take k, (c != 46) = true := fun c hc => by simpa using h c hc
  cases hd : l.drop k with
  | nil => rw [List.append_nil]; exact Sp.tw_all h1
  | cons c r =>
    obtain rfl := hs c (Sp.at_drop hd)
    exact Sp.tw_stop h1 (by decide)
theorem nodot_more {l : Bs} {k : Nat} {c : UInt8} (h : ∀ c ∈ l.take k, c ≠ (46 : UInt8)) (hc : l[k]? = some c) (hn : c ≠ 46) : ∀ c ∈ l.take (k + 1), c ≠ (46 : UInt8) := by
  rw [List.take_add_one, hc]
  intro d hd
  rcases List.mem_append.1 hd with hd | hd
  · exact h d hd
  · simp only [Option.toList_some, List.mem_singleton] at hd; rw [hd]; exact hn

set_option maxHeartbeats 8000000 in
set_option maxRecDepth 100000 in
theorem rwild_any (s : ByteArray) (W : World) (hs : s.size ≤ 4000) :
    Calls Tryz.prog 70 #[.string s] W fun e w' => WildR W w' (Sp.refW s.data.toList) e := by
  have XR := Box.new W #[.int .i64 0, .int .i64 0, .int .i64 0, .string ⟨#[]⟩, .int .i64 0, .int .i64 0, .int .i64 0, .string ⟨#[]⟩, .bool false, .bool false, .bool false] 44
  by_cases h4 : s.size < 4
  · have HN : Hid (Sp.refW s.data.toList = none) := refW_no (fun h => by rw [len_eq] at h; omega)
    have d4 : (s.size : Int) < 4 := by omega
    go_enter Tryz.func70, Tryz.ntmps70
    go_wp2_with fail
    exact bodyPost_ret (v := .tuple #[spv 0 0 0 ⟨#[]⟩ 0 0 0 ⟨#[]⟩ false false false, .bool false]) (by simp [results, Tryz.results70, go_sem]) rfl ⟨⟨0, 0, 0, ⟨#[]⟩, 0, 0, 0, ⟨#[]⟩, false, false, false⟩, by rw [HN.out]; rfl, hide (by rw [HN.out]; exact fun _ h => nomatch h), (by repeat (first | with_reducible assumption | with_reducible exact Below.refl _ _ | with_reducible refine Below.setCell ?_ (by first | exact Nat.le_refl _ | (simp; done) | (simp; omega)) _ | with_reducible refine bal ?_ _ | with_reducible refine Below.alloc ?_ (by first | exact Nat.le_refl _ | (simp; done) | (simp; omega)) _ | with_reducible refine Below.drew ?_))⟩
  have d4 : ¬ (s.size : Int) < 4 := by omega
  have hg0 : s.data.toList[0]? = some s[0] := Lib.data_getElem? s 0 (by omega)
  have i0 : (0 : Int) < (s.size : Int) := by omega
  by_cases h8 : s[0] = 118
  case neg =>
    have HN : Hid (Sp.refW s.data.toList = none) := refW_no (fun h => by rw [List.head?_eq_getElem?, hg0] at h; exact h8 (Option.some.inj h.2.1))
    have hne : ((s[0].toNat : Int) == 118) = false := by
      have : ¬ s[0].toNat = 118 := fun h => h8 (UInt8.toNat_inj.1 h)
      simpa using (by omega : ¬ (s[0].toNat : Int) = 118)
    have hne2 : ¬ (s[0].toNat : Int) = 118 := by simpa using hne
    go_enter Tryz.func70, Tryz.ntmps70
    go_wp2_with fail
    exact bodyPost_ret (v := .tuple #[spv 0 0 0 ⟨#[]⟩ 0 0 0 ⟨#[]⟩ false false false, .bool false]) (by simp [results, Tryz.results70, go_sem]) rfl ⟨⟨0, 0, 0, ⟨#[]⟩, 0, 0, 0, ⟨#[]⟩, false, false, false⟩, by rw [HN.out]; rfl, hide (by rw [HN.out]; exact fun _ h => nomatch h), (by repeat (first | with_reducible assumption | with_reducible exact Below.refl _ _ | with_reducible refine Below.setCell ?_ (by first | exact Nat.le_refl _ | (simp; done) | (simp; omega)) _ | with_reducible refine bal ?_ _ | with_reducible refine Below.alloc ?_ (by first | exact Nat.le_refl _ | (simp; done) | (simp; omega)) _ | with_reducible refine Below.drew ?_))⟩
  have hlast : Hid ((s.extract (s.size - 2) s.size).toList = s.data.toList.drop (s.data.toList.length - 2)) := by
    show _ = _
    rw [toList_data, ext2, len_eq]
  by_cases he : s.data.toList.drop (s.data.toList.length - 2) = [46, 120]
  case neg =>
    have HN : Hid (Sp.refW s.data.toList = none) := refW_no (fun h => he h.2.2)
    have hx : (!(s.extract (s.size - 2) s.size).toList == [46, 120]) = true := by rw [hlast.out]; simpa using he
    clear he hg0
    go_enter Tryz.func70, Tryz.ntmps70
    go_wp2_with fail
    exact bodyPost_ret (v := .tuple #[spv 0 0 0 ⟨#[]⟩ 0 0 0 ⟨#[]⟩ false false false, .bool false]) (by simp [results, Tryz.results70, go_sem]) rfl ⟨⟨0, 0, 0, ⟨#[]⟩, 0, 0, 0, ⟨#[]⟩, false, false, false⟩, by rw [HN.out]; rfl, hide (by rw [HN.out]; exact fun _ h => nomatch h), (by repeat (first | with_reducible assumption | with_reducible exact Below.refl _ _ | with_reducible refine Below.setCell ?_ (by first | exact Nat.le_refl _ | (simp; done) | (simp; omega)) _ | with_reducible refine bal ?_ _ | with_reducible refine Below.alloc ?_ (by first | exact Nat.le_refl _ | (simp; done) | (simp; omega)) _ | with_reducible refine Below.drew ?_))⟩
  have hx : (!(s.extract (s.size - 2) s.size).toList == [46, 120]) = false := by rw [hlast.out, he]; rfl
  have HRW : Hid (Sp.refW s.data.toList = if ((Sp.wx s.data.toList).takeWhile (· != 46)).length = (Sp.wx s.data.toList).length then
      if okNum ((Sp.wx s.data.toList).takeWhile (· != 46)) = true ∧ numVal ((Sp.wx s.data.toList).takeWhile (· != 46)) ≤ 999999 then some (Sp.only Sp.cmpC (Sp.firstC (numVal ((Sp.wx s.data.toList).takeWhile (· != 46))) 0 0) (Sp.bumpA ⟨numVal ((Sp.wx s.data.toList).takeWhile (· != 46)), 0, 0, ⟨#[48]⟩⟩)) else none
    else if (okNum ((Sp.wx s.data.toList).takeWhile (· != 46)) = true ∧ okNum ((Sp.wx s.data.toList).drop (((Sp.wx s.data.toList).takeWhile (· != 46)).length + 1)) = true) ∧ numVal ((Sp.wx s.data.toList).takeWhile (· != 46)) ≤ 999999 ∧ numVal ((Sp.wx s.data.toList).drop (((Sp.wx s.data.toList).takeWhile (· != 46)).length + 1)) ≤ 999999 then
      some (Sp.only Sp.cmpC (Sp.firstC (numVal ((Sp.wx s.data.toList).takeWhile (· != 46))) (numVal ((Sp.wx s.data.toList).drop (((Sp.wx s.data.toList).takeWhile (· != 46)).length + 1))) 0) (Sp.bumpB ⟨numVal ((Sp.wx s.data.toList).takeWhile (· != 46)), numVal ((Sp.wx s.data.toList).drop (((Sp.wx s.data.toList).takeWhile (· != 46)).length + 1)), 0, ⟨#[48]⟩⟩))
    else none) := by
    show _ = _
    unfold Sp.refW
    rw [if_pos ⟨by rw [len_eq]; omega, by rw [List.head?_eq_getElem?, hg0, h8], he⟩]
  have HWX : Hid (Sp.wx s.data.toList = (s.extract 1 (s.size - 2)).data.toList) := by
    show _ = _
    unfold Sp.wx
    rw [ext_list, len_eq, show s.size - 2 - 1 = s.size - 3 by omega]
  rw [HWX.out] at HRW
  have hbs : (s.extract 1 (s.size - 2)).size ≤ 4000 := by rw [ByteArray.size_extract]; omega
  clear he hg0 hlast HWX
  generalize Sp.refW s.data.toList = o at *
  go_enter Tryz.func70, Tryz.ntmps70
  go_wp2_with fail
  generalize s.extract 1 (s.size - 2) = bd at *
  have HXR := hide XR
  have HB1 : Hid (RowKit.Below W.heap.size W (W.alloc (.cells #[.int .i64 0, .int .i64 0, .int .i64 0, .string ⟨#[]⟩, .int .i64 0, .int .i64 0, .int .i64 0, .string ⟨#[]⟩, .bool false, .bool false, .bool false] 44))) := hide (by repeat (first | with_reducible assumption | with_reducible exact Below.refl _ _ | with_reducible refine Below.setCell ?_ (by first | exact Nat.le_refl _ | (simp; done) | (simp; omega)) _ | with_reducible refine bal ?_ _ | with_reducible refine Below.alloc ?_ (by first | exact Nat.le_refl _ | (simp; done) | (simp; omega)) _ | with_reducible refine Below.drew ?_))
  clear XR hx h8 i0 d4 h4
  generalize W.alloc (.cells #[.int .i64 0, .int .i64 0, .int .i64 0, .string ⟨#[]⟩, .int .i64 0, .int .i64 0, .int .i64 0, .string ⟨#[]⟩, .bool false, .bool false, .bool false] 44) = W1 at *
  go_loopw [5] (fun d wr => ∃ k : Nat, k ≤ bd.size ∧ d = .int .i64 k ∧ wr = W1 ∧ Hid (∀ c ∈ bd.data.toList.take k, c ≠ (46 : UInt8))) (fun d _ => bd.size - (RowKit.intOf d).toNat)
  case atStart => exact ⟨0, by omega, rfl, rfl, hide (by simp)⟩
  case round =>
    obtain ⟨k, hk, rfl, rfl, HD⟩ := hrel
    have j1 : (0 : Int) ≤ (k : Int) := by omega
    have j2 : (k : Int) ≤ (bd.size : Int) := by omega
    have HX0 : Hid ((bd.extract 0 k).data.toList = bd.data.toList.take k) := by show _ = _; rw [ext_list, List.drop_zero, Nat.sub_zero]
    have CN : Hid (∀ W', Calls Tryz.prog 21 #[.string (bd.extract 0 k)] W' fun e w' => e = .returned (.tuple #[.int .i64 (Tx.numR (bd.data.toList.take k)), .bool (Tx.okNum (bd.data.toList.take k))]) ∧ w' = W') := fun W' => by
      have := rnumber_any (bd.extract 0 k) W' (by unfold maxLen; rw [ByteArray.size_extract]; omega)
      rw [HX0.out] at this
      exact this
    have CT : Hid (∀ (v : V) k0 W', ((0 ≤ v.a ∧ v.a ≤ 1000000000) ∧ (0 ≤ v.b ∧ v.b ≤ 1000000000) ∧ (0 ≤ v.c ∧ v.c ≤ 1000000000)) → (k0 = 0 ∨ k0 = 1 ∨ k0 = 2) → Calls Tryz.prog 104 #[ver v.a v.b v.c v.p, .int .i64 k0] W' fun e w' => e = .returned (pt (some (v, false), bumpAt v k0)).val ∧ RowKit.Below W'.heap.size W' w') := fun v k0 W' h1 h2 => rto_any v k0 W' h2 h1
    by_cases he : k = bd.size
    · have HTW := hide (tw_take HD.out (fun c h => by rw [List.getElem?_eq_none (by rw [len_eq]; omega)] at h; exact nomatch h))
      have HRW2 := hide HRW.out
      rw [HTW.out, if_pos (by rw [List.length_take, len_eq]; omega)] at HRW2
      have hA := numR_bd (bd.data.toList.take k)
      have HNV : Hid (Tx.okNum (bd.data.toList.take k) = true → numVal (bd.data.toList.take k) = Tx.numR (bd.data.toList.take k)) := fun h => by unfold Tx.numR; rw [if_pos h]
      generalize numVal (bd.data.toList.take k) = nv at *
      generalize Tx.numR (bd.data.toList.take k) = A at *
      generalize Tx.okNum (bd.data.toList.take k) = oa at *
      have HA := hide hA
      have i3 : decide ((k : Int) < (bd.size : Int)) = false := by simp; omega
      have i4 : ((k : Int) == (bd.size : Int)) = true := by simp; omega
      clear HTW HRW HD HX0 hA he
      go_wp2_with fail
      refine (CN.out _).mono ?_
      rintro e w2 ⟨rfl, rfl⟩
      clear CN
      go_wp2_with fail
      refine (CT.out ⟨A, 0, 0, ⟨#[48]⟩⟩ 0 _ (by have := HA.out; simp; omega) (by omega)).mono ?_
      rintro e w3 ⟨rfl, b3⟩
      have hb3 : RowKit.Below w2.heap.size w2 w3 := RowKit.Below.trans ((RowKit.Below.refl w2.heap.size w2).alloc (Nat.le_refl _) _) (b3.mono (by simp))
      have X3 := HXR.out.later hb3
      have B3 := hide (step HB1.out hb3)
      clear b3 hb3 CT
      obtain ⟨_, c3, f3⟩ := X3
      cases oa with
      | false =>
        have HO : Hid (o = none) := by show _ = _; rw [HRW2.out, if_neg (fun h => nomatch h.1)]
        generalize pt (some ((⟨A, 0, 0, ⟨#[48]⟩⟩ : V), false), bumpAt ⟨A, 0, 0, ⟨#[48]⟩⟩ 0) = q at *
        go_wp2_with fail
        have hb9 := B3.out
        exact bodyPost_ret (v := .tuple #[q.val, .bool false]) (by simp [results, Tryz.results70, go_sem, *]) rfl ⟨q, by rw [HO.out]; rfl, hide (by rw [HO.out]; exact fun _ h => nomatch h), (by repeat (first | with_reducible assumption | with_reducible exact Below.refl _ _ | with_reducible refine Below.setCell ?_ (by first | exact Nat.le_refl _ | (simp; done) | (simp; omega)) _ | with_reducible refine bal ?_ _ | with_reducible refine Below.alloc ?_ (by first | exact Nat.le_refl _ | (simp; done) | (simp; omega)) _ | with_reducible refine Below.drew ?_))⟩
      | true =>
        by_cases hm : A ≤ 999999
        · have HO : Hid (o = some (Sp.only Sp.cmpC (Sp.firstC A 0 0) (Sp.bumpA ⟨A, 0, 0, ⟨#[48]⟩⟩))) := by show _ = _; rw [HRW2.out, HNV.out rfl, if_pos ⟨rfl, hm⟩]
          have FW : Hid (okPt (pt (some ((⟨A, 0, 0, ⟨#[48]⟩⟩ : V), false), bumpAt ⟨A, 0, 0, ⟨#[48]⟩⟩ 0)) ∧ Sp.nrm [pS (pt (some ((⟨A, 0, 0, ⟨#[48]⟩⟩ : V), false), bumpAt ⟨A, 0, 0, ⟨#[48]⟩⟩ 0))] = Sp.only Sp.cmpC (Sp.firstC A 0 0) (Sp.bumpA ⟨A, 0, 0, ⟨#[48]⟩⟩)) := by
            have := HA.out
            exact wild_fin (a := A) (b := 0) ⟨by omega, hm⟩ (by omega) _ (Sp.ok_bumpA (first_ok ⟨by omega, hm⟩ (by omega)))
          generalize pt (some ((⟨A, 0, 0, ⟨#[48]⟩⟩ : V), false), bumpAt ⟨A, 0, 0, ⟨#[48]⟩⟩ 0) = q at *
          go_wp2_with fail
          have hb9 := B3.out
          exact bodyPost_ret (v := .tuple #[q.val, .bool true]) (by simp [results, Tryz.results70, go_sem, *]) rfl ⟨q, by rw [HO.out]; rfl, hide (by rw [HO.out]; intro l h; rw [← Option.some.inj h]; exact FW.out), (by repeat (first | with_reducible assumption | with_reducible exact Below.refl _ _ | with_reducible refine Below.setCell ?_ (by first | exact Nat.le_refl _ | (simp; done) | (simp; omega)) _ | with_reducible refine bal ?_ _ | with_reducible refine Below.alloc ?_ (by first | exact Nat.le_refl _ | (simp; done) | (simp; omega)) _ | with_reducible refine Below.drew ?_))⟩
        · have HO : Hid (o = none) := by show _ = _; rw [HRW2.out, HNV.out rfl, if_neg (fun h => hm h.2)]
          have hm2 : decide (A ≤ 999999) = false := decide_eq_false hm
          generalize pt (some ((⟨A, 0, 0, ⟨#[48]⟩⟩ : V), false), bumpAt ⟨A, 0, 0, ⟨#[48]⟩⟩ 0) = q at *
          go_wp2_with fail
          have hb9 := B3.out
          exact bodyPost_ret (v := .tuple #[q.val, .bool false]) (by simp [results, Tryz.results70, go_sem, *]) rfl ⟨q, by rw [HO.out]; rfl, hide (by rw [HO.out]; exact fun _ h => nomatch h), (by repeat (first | with_reducible assumption | with_reducible exact Below.refl _ _ | with_reducible refine Below.setCell ?_ (by first | exact Nat.le_refl _ | (simp; done) | (simp; omega)) _ | with_reducible refine bal ?_ _ | with_reducible refine Below.alloc ?_ (by first | exact Nat.le_refl _ | (simp; done) | (simp; omega)) _ | with_reducible refine Below.drew ?_))⟩
    · have hlt : k < bd.size := by omega
      have i2 : (k : Int) < (bd.size : Int) := by omega
      have hget : bd.data.toList[k]? = some bd[k] := Lib.data_getElem? bd k hlt
      by_cases hc : bd[k] = 46
      · have HTW := hide (tw_take HD.out (fun c h => by rw [hget] at h; rw [← Option.some.inj h]; exact hc))
        have HRW2 := hide HRW.out
        have hlen : (bd.data.toList.take k).length = k := by rw [List.length_take, len_eq]; omega
        rw [HTW.out, hlen, if_neg (by rw [len_eq]; omega)] at HRW2
        have HY0 : Hid ((bd.extract (k + 1) bd.size).data.toList = bd.data.toList.drop (k + 1)) := ext2 bd (k + 1)
        have CN2 : Hid (∀ W', Calls Tryz.prog 21 #[.string (bd.extract (k + 1) bd.size)] W' fun e w' => e = .returned (.tuple #[.int .i64 (Tx.numR (bd.data.toList.drop (k + 1))), .bool (Tx.okNum (bd.data.toList.drop (k + 1)))]) ∧ w' = W') := fun W' => by
          have := rnumber_any (bd.extract (k + 1) bd.size) W' (by unfold maxLen; rw [ByteArray.size_extract]; omega)
          rw [HY0.out] at this
          exact this
        have hA := numR_bd (bd.data.toList.take k)
        have hB := numR_bd (bd.data.toList.drop (k + 1))
        have HNV : Hid (Tx.okNum (bd.data.toList.take k) = true → numVal (bd.data.toList.take k) = Tx.numR (bd.data.toList.take k)) := fun h => by unfold Tx.numR; rw [if_pos h]
        have HMV : Hid (Tx.okNum (bd.data.toList.drop (k + 1)) = true → numVal (bd.data.toList.drop (k + 1)) = Tx.numR (bd.data.toList.drop (k + 1))) := fun h => by unfold Tx.numR; rw [if_pos h]
        generalize numVal (bd.data.toList.take k) = nv at *
        generalize Tx.numR (bd.data.toList.take k) = A at *
        generalize Tx.okNum (bd.data.toList.take k) = oa at *
        generalize numVal (bd.data.toList.drop (k + 1)) = mv at *
        generalize Tx.numR (bd.data.toList.drop (k + 1)) = B at *
        generalize Tx.okNum (bd.data.toList.drop (k + 1)) = ob at *
        have HA := hide hA
        have HBB := hide hB
        have i4 : ((k : Int) == (bd.size : Int)) = false := by simp; omega
        have i5 : wrap64 ((k : Int) + 1) = ((k + 1 : Nat) : Int) := by unfold wrap64; omega
        have i6 : ((k + 1 : Nat) : Int) ≤ (bd.size : Int) := by omega
        clear HTW HRW HD HX0 hA hB hget he hlen HY0
        go_wp2_with fail
        refine (CN.out _).mono ?_
        rintro e w2 ⟨rfl, rfl⟩
        clear CN
        go_wp2_with fail
        refine (CN2.out _).mono ?_
        rintro e w3 ⟨rfl, rfl⟩
        clear CN2
        go_wp2_with fail
        refine (CT.out ⟨A, B, 0, ⟨#[48]⟩⟩ 1 _ (by have := HA.out; have := HBB.out; simp; omega) (by omega)).mono ?_
        rintro e w4 ⟨rfl, b4⟩
        have hb4 : RowKit.Below w2.heap.size w2 w4 := RowKit.Below.trans ((RowKit.Below.refl w2.heap.size w2).alloc (Nat.le_refl _) _) (b4.mono (by simp))
        have X4 := HXR.out.later hb4
        have B4 := hide (step HB1.out hb4)
        clear b4 hb4 CT
        obtain ⟨_, c4, f4⟩ := X4
        cases oa with
        | false =>
          have HO : Hid (o = none) := by show _ = _; rw [HRW2.out, if_neg (fun h => nomatch h.1.1)]
          generalize pt (some ((⟨A, B, 0, ⟨#[48]⟩⟩ : V), false), bumpAt ⟨A, B, 0, ⟨#[48]⟩⟩ 1) = q at *
          go_wp2_with fail
          have hb9 := B4.out
          exact bodyPost_ret (v := .tuple #[q.val, .bool false]) (by simp [results, Tryz.results70, go_sem, *]) rfl ⟨q, by rw [HO.out]; rfl, hide (by rw [HO.out]; exact fun _ h => nomatch h), (by repeat (first | with_reducible assumption | with_reducible exact Below.refl _ _ | with_reducible refine Below.setCell ?_ (by first | exact Nat.le_refl _ | (simp; done) | (simp; omega)) _ | with_reducible refine bal ?_ _ | with_reducible refine Below.alloc ?_ (by first | exact Nat.le_refl _ | (simp; done) | (simp; omega)) _ | with_reducible refine Below.drew ?_))⟩
        | true =>
          cases ob with
          | false =>
            have HO : Hid (o = none) := by show _ = _; rw [HRW2.out, if_neg (fun h => nomatch h.1.2)]
            generalize pt (some ((⟨A, B, 0, ⟨#[48]⟩⟩ : V), false), bumpAt ⟨A, B, 0, ⟨#[48]⟩⟩ 1) = q at *
            go_wp2_with fail
            have hb9 := B4.out
            exact bodyPost_ret (v := .tuple #[q.val, .bool false]) (by simp [results, Tryz.results70, go_sem, *]) rfl ⟨q, by rw [HO.out]; rfl, hide (by rw [HO.out]; exact fun _ h => nomatch h), (by repeat (first | with_reducible assumption | with_reducible exact Below.refl _ _ | with_reducible refine Below.setCell ?_ (by first | exact Nat.le_refl _ | (simp; done) | (simp; omega)) _ | with_reducible refine bal ?_ _ | with_reducible refine Below.alloc ?_ (by first | exact Nat.le_refl _ | (simp; done) | (simp; omega)) _ | with_reducible refine Below.drew ?_))⟩
          | true =>
            by_cases hm : A ≤ 999999 ∧ B ≤ 999999
            · have HO : Hid (o = some (Sp.only Sp.cmpC (Sp.firstC A B 0) (Sp.bumpB ⟨A, B, 0, ⟨#[48]⟩⟩))) := by show _ = _; rw [HRW2.out, HNV.out rfl, HMV.out rfl, if_pos ⟨⟨rfl, rfl⟩, hm⟩]
              have FW : Hid (okPt (pt (some ((⟨A, B, 0, ⟨#[48]⟩⟩ : V), false), bumpAt ⟨A, B, 0, ⟨#[48]⟩⟩ 1)) ∧ Sp.nrm [pS (pt (some ((⟨A, B, 0, ⟨#[48]⟩⟩ : V), false), bumpAt ⟨A, B, 0, ⟨#[48]⟩⟩ 1))] = Sp.only Sp.cmpC (Sp.firstC A B 0) (Sp.bumpB ⟨A, B, 0, ⟨#[48]⟩⟩)) := by
                have := HA.out
                have := HBB.out
                exact wild_fin (a := A) (b := B) ⟨by omega, hm.1⟩ ⟨by omega, hm.2⟩ _ (Sp.ok_bumpB (first_ok ⟨by omega, hm.1⟩ ⟨by omega, hm.2⟩))
              have hmx : max A B ≤ 999999 := by omega
              generalize pt (some ((⟨A, B, 0, ⟨#[48]⟩⟩ : V), false), bumpAt ⟨A, B, 0, ⟨#[48]⟩⟩ 1) = q at *
              go_wp2_with fail
              have hb9 := B4.out
              exact bodyPost_ret (v := .tuple #[q.val, .bool true]) (by simp [results, Tryz.results70, go_sem, *]) rfl ⟨q, by rw [HO.out]; rfl, hide (by rw [HO.out]; intro l h; rw [← Option.some.inj h]; exact FW.out), (by repeat (first | with_reducible assumption | with_reducible exact Below.refl _ _ | with_reducible refine Below.setCell ?_ (by first | exact Nat.le_refl _ | (simp; done) | (simp; omega)) _ | with_reducible refine bal ?_ _ | with_reducible refine Below.alloc ?_ (by first | exact Nat.le_refl _ | (simp; done) | (simp; omega)) _ | with_reducible refine Below.drew ?_))⟩
            · have hmx : ¬ max A B ≤ 999999 := by omega
              have HM := hide hm
              clear hm
              have HO : Hid (o = none) := by show _ = _; rw [HRW2.out, HNV.out rfl, HMV.out rfl, if_neg (fun h => HM.out h.2)]
              generalize pt (some ((⟨A, B, 0, ⟨#[48]⟩⟩ : V), false), bumpAt ⟨A, B, 0, ⟨#[48]⟩⟩ 1) = q at *
              go_wp2_with fail
              have hb9 := B4.out
              exact bodyPost_ret (v := .tuple #[q.val, .bool false]) (by simp [results, Tryz.results70, go_sem, *]) rfl ⟨q, by rw [HO.out]; rfl, hide (by rw [HO.out]; exact fun _ h => nomatch h), (by repeat (first | with_reducible assumption | with_reducible exact Below.refl _ _ | with_reducible refine Below.setCell ?_ (by first | exact Nat.le_refl _ | (simp; done) | (simp; omega)) _ | with_reducible refine bal ?_ _ | with_reducible refine Below.alloc ?_ (by first | exact Nat.le_refl _ | (simp; done) | (simp; omega)) _ | with_reducible refine Below.drew ?_))⟩
      · have HD2 := hide (nodot_more HD.out hget hc)
        have hne : ((bd[k].toNat : Int) == 46) = false := by
          have : ¬ bd[k].toNat = 46 := fun h => hc (UInt8.toNat_inj.1 h)
          simpa using (by omega : ¬ (bd[k].toNat : Int) = 46)
        have hne2 : ¬ (bd[k].toNat : Int) = 46 := by simpa using hne
        clear hget hc
        go_wp2_with fail
        go_roundw
        case rel => exact ⟨k + 1, by omega, by go_num, by first | rfl | trivial, HD2⟩
        case measure => simp [RowKit.intOf]; omega
end Go.Proofs.YthihnpjbdjmbhaaGreatDoor
