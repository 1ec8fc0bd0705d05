/-
  Contracts of path's number, lineOf, Major, fits, Fits, covers.
-/
import Derived.Test.YtcoakjgeadkfoaaDoorH4
import Derived.Deep.RegionHeld3
import Derived.BigQuiet
namespace Go.Proofs.YtcoakjgeadkfoaaDoor
set_option linter.unusedSimpArgs false
set_option linter.unusedVariables false
open Go.RowKit Go.Vr Go.Sort Go.Tx Go.Pa Go.Lib
attribute [local go_sem] setCellDrewN allocDrewN

/-- What number answers. -/
def nret (o : Option Int) : Value := .tuple #[.int .i64 (o.getD 0), .bool o.isSome]
theorem ret_none {o : Option Int} (h : o = none) : Ending.returned (.tuple #[.int .i64 0, .bool false]) = .returned (nret o) := by rw [h]; rfl
theorem ret_some {o : Option Int} {n : Int} (h : o = some n) : Ending.returned (.tuple #[.int .i64 n, .bool true]) = .returned (nret o) := by rw [h]; rfl

set_option maxHeartbeats 2000000 in
set_option maxRecDepth 100000 in
theorem pnumber_any (s : ByteArray) (w : World) (hs : s.size ≤ 5000) (he : Env w) :
    Calls Tryd.prog 26 #[.string s] w fun e w' => e = .returned (nret (majW s.data.toList)) ∧ Below w.heap.size w w' := by
  have HE := hide he
  clear he
  have CC := hide (fun W => cutPrefix_any s ⟨#[118]⟩ W)
  simp only [show (ByteArray.mk #[118]).data.toList = [118] from rfl] at CC
  have hl := trim_len s.data.toList [118]
  rw [len_eq] at hl
  cases hp : hasPrefix s.data.toList [118] with
  | false =>
    have HM := hide (maj_novee hp)
    rw [hp] at CC
    have hx : (str (trimPrefix s.data.toList [118])).size ≤ 5000 := by rw [str_size]; omega
    generalize str (trimPrefix s.data.toList [118]) = d at *
    have CA := hide (fun W hW => atoi_ends d W (by omega) hW)
    clear hp hl hx
    go_enter Tryd.func26, Tryd.ntmps26
    go_wp2_with fail
    refine (CC.out _).mono ?_
    rintro e w1 ⟨rfl, rfl⟩
    go_wp2_with fail
    refine (CA.out _ HE.out).mono ?_
    rintro e w2 ⟨⟨v, -, rfl⟩ | ⟨n, tp, p, -, rfl⟩, b2⟩
    · go_wp2_with fail
      go_ret2
      exact ⟨ret_none HM.out, b2⟩
    · go_wp2_with fail
      go_ret2
      exact ⟨ret_none HM.out, b2⟩
  | true =>
    have hv := vee hp
    rw [hp] at CC
    have hx : (str (trimPrefix s.data.toList [118])).size ≤ 5000 := by rw [str_size]; omega
    have hd : s.data.toList = 118 :: (str (trimPrefix s.data.toList [118])).data.toList := by rw [str_list]; exact hv
    generalize str (trimPrefix s.data.toList [118]) = d at *
    have CA := hide (fun W hW => atoi_ends d W (by omega) hW)
    have HD := hide hd
    clear hp hl hx hv hd
    go_enter Tryd.func26, Tryd.ntmps26
    go_wp2_with fail
    refine (CC.out _).mono ?_
    rintro e w1 ⟨rfl, rfl⟩
    go_wp2_with fail
    refine (CA.out _ HE.out).mono ?_
    rintro e w2 ⟨⟨v, hv, rfl⟩ | ⟨n, tp, p, hv, rfl⟩, b2⟩
    · have HV := hide (maj_ok hv)
      have hvb := atoiAll_bounds hv
      have E2 := hide (HE.out.later b2)
      clear hv CA CC HE
      by_cases h2 : v < 2
      · have HM : Hid (majW s.data.toList = none) := by show _ = _; rw [HD.out, HV.out]; exact if_neg (fun h => by omega)
        have d2 : decide (v < 2) = true := by simpa using h2
        clear hvb h2
        go_wp2_with fail
        go_ret2
        exact ⟨ret_none HM.out, b2⟩
      · have d2 : decide (v < 2) = false := by simpa using h2
        by_cases h9 : 999999 < v
        · have HM : Hid (majW s.data.toList = none) := by show _ = _; rw [HD.out, HV.out]; exact if_neg (fun h => by omega)
          have d9 : decide (999999 < v) = true := by simpa using h9
          clear hvb h2 h9
          go_wp2_with fail
          go_ret2
          exact ⟨ret_none HM.out, b2⟩
        · have d9 : decide (999999 < v) = false := by simpa using h9
          have CT := hide (fun W hW => itoa_any v W (by omega) (by omega) hW)
          cases hc : ((str (itoa v)).toList == d.toList) with
          | false =>
            have HM : Hid (majW s.data.toList = none) := by
              show _ = _
              rw [HD.out, HV.out]
              refine if_neg (fun h => ?_)
              rw [toList_data, toList_data, str_list, h.2.2] at hc
              simp at hc
            have hc2 : ((str (itoa v)).toList != d.toList) = true := by rw [bne, hc]; rfl
            generalize str (itoa v) = t at *
            clear hvb h2 h9 HV
            go_wp2_with fail
            refine (CT.out _ E2.out).mono ?_
            rintro e w3 ⟨rfl, b3⟩
            go_wp2_with fail
            go_ret2
            exact ⟨ret_none HM.out, step b2 b3⟩
          | true =>
            have HM : Hid (majW s.data.toList = some v) := by
              show _ = _
              rw [HD.out, HV.out]
              rw [toList_data, toList_data, str_list] at hc
              exact if_pos ⟨by omega, by omega, by simpa using hc⟩
            have hc2 : ((str (itoa v)).toList != d.toList) = false := by rw [bne, hc]; rfl
            generalize str (itoa v) = t at *
            clear hvb h2 h9 HV
            go_wp2_with fail
            refine (CT.out _ E2.out).mono ?_
            rintro e w3 ⟨rfl, b3⟩
            go_wp2_with fail
            go_ret2
            exact ⟨ret_some HM.out, step b2 b3⟩
    · have HM : Hid (majW s.data.toList = none) := by show _ = _; rw [HD.out]; exact maj_err hv
      clear hv CA CC HE
      go_wp2_with fail
      go_ret2
      exact ⟨ret_none HM.out, b2⟩

/-- What lineOf answers. -/
abbrev lval (x : ByteArray) (n : Int) : Value := .agg #[.string x, .int .i64 n]
def lof (s : Bs) : Value := lval (str (maj s).1) (maj s).2
theorem ret_lof {s : ByteArray} {x : ByteArray} {n : Int} (h : maj s.data.toList = (x.data.toList, n)) : Ending.returned (lval x n) = .returned (lof s.data.toList) := by
  unfold lof; rw [h]; simp only [str_of]
/-- A line's variable. -/
structure LineAt (w : World) (N : Nat) (x : ByteArray) (n : Int) : Prop where
  lt : N < w.heap.size
  c0 : w.cell? ⟨N, 0, none⟩ = some (.string x)
  c1 : w.cell? ⟨N, 1, none⟩ = some (.int .i64 n)
  f0 : w.frozen? ⟨N, 0, none⟩ = false
  f1 : w.frozen? ⟨N, 1, none⟩ = false
theorem bal {a w : World} (h : Below a.heap.size a w) (o : Obj) : Below a.heap.size a (w.alloc o) := h.alloc h.size o
theorem LineAt.new (w : World) (x : ByteArray) (n : Int) : LineAt (w.alloc (.cells #[.string x, .int .i64 n] 40)) w.heap.size x n := ⟨by simp, by simp [go_sem], by simp [go_sem], by simp [go_sem], by simp [go_sem]⟩
theorem LineAt.later {w w' : World} {N : Nat} {x : ByteArray} {n : Int} (h : LineAt w N x n) (b : Below w.heap.size w w') : LineAt w' N x n :=
  ⟨Nat.lt_of_lt_of_le h.lt b.size, cellLater b h.c0, cellLater b h.c1, (b.frozen (p := ⟨N, 0, none⟩) h.lt).trans h.f0, (b.frozen (p := ⟨N, 1, none⟩) h.lt).trans h.f1⟩

set_option maxHeartbeats 2000000 in
set_option maxRecDepth 100000 in
theorem lineOf_any (s : ByteArray) (w : World) (hs : s.size ≤ 5000) (he : Env w) :
    Calls Tryd.prog 16 #[.string s] w fun e w' => e = .returned (lof s.data.toList) ∧ Below w.heap.size w w' := by
  have hB0 : Below w.heap.size w (w.alloc (.cells #[.string ⟨#[]⟩, .int .i64 0] 40)) := (Below.refl _ _).alloc (Nat.le_refl _) _
  have L0 := hide (LineAt.new w ⟨#[]⟩ 0)
  have E0 := hide (he.later hB0)
  clear he
  have CI := hide (fun W => lastIndexByte_any s 47 (by omega) W)
  rcases last_slash s with ⟨h1, h2⟩ | ⟨i, hi, h1, h2⟩
  · have HM := hide (maj_none h2)
    rw [h1] at CI
    clear h1 h2
    obtain ⟨lt, c0, c1, f0, f1⟩ := L0.out
    go_enter Tryd.func16, Tryd.ntmps16
    go_wp2_with fail
    refine (CI.out _).mono ?_
    rintro e w1 ⟨rfl, rfl⟩
    go_wp2_with fail
    exact bodyPost_ret (v := lval s 0) (by simp [results, Tryd.results16, go_sem, c0, c1]) rfl ⟨ret_lof HM.out, (by repeat (first | with_reducible assumption | with_reducible exact Below.refl _ _ | with_reducible refine Below.setCell ?_ (by first | exact Nat.le_refl _ | (simp; done) | (simp; omega)) _ | with_reducible refine bal ?_ _ | with_reducible refine Below.alloc ?_ (by first | exact Nat.le_refl _ | (simp; done) | (simp; omega)) _ | with_reducible refine Below.drew ?_))⟩
  · rw [h1] at CI
    have hz : (s.extract (i + 1) s.size).size ≤ 5000 := by rw [ByteArray.size_extract]; omega
    have CN := hide (fun W hW => pnumber_any (s.extract (i + 1) s.size) W hz hW)
    have d1 : decide ((i : Int) < 0) = false := decide_eq_false (by omega)
    have k1 : IntKind.i64.wrap ((i : Int) + 1) = (i : Int) + 1 := by rw [IntKind.wrap_i64]; omega
    have k2 : (0 : Int) ≤ (i : Int) + 1 := by omega
    have k3 : (i : Int) + 1 ≤ (s.size : Int) := by omega
    have k4 : (i : Int) ≤ (s.size : Int) := by omega
    have k5 : (0 : Int) ≤ (i : Int) := by omega
    cases hw : majW (s.extract (i + 1) s.size).data.toList with
    | none =>
      have HM := hide (maj_word h2 hw)
      rw [hw] at CN
      simp only [nret, Option.getD_none, Option.isSome_none] at CN
      clear h1 h2 hw hz
      go_enter Tryd.func16, Tryd.ntmps16
      go_wp2_with fail
      refine (CI.out _).mono ?_
      rintro e w1 ⟨rfl, rfl⟩
      go_wp2_with fail
      refine (CN.out _ E0.out).mono ?_
      rintro e w2 ⟨rfl, b2⟩
      have hB2 := hB0.trans (b2.mono hB0.size)
      obtain ⟨lt, c0, c1, f0, f1⟩ := L0.out.later b2
      go_wp2_with fail
      exact bodyPost_ret (v := lval s 0) (by simp [results, Tryd.results16, go_sem, c0, c1]) rfl ⟨ret_lof HM.out, (by repeat (first | with_reducible assumption | with_reducible exact Below.refl _ _ | with_reducible refine Below.setCell ?_ (by first | exact Nat.le_refl _ | (simp; done) | (simp; omega)) _ | with_reducible refine bal ?_ _ | with_reducible refine Below.alloc ?_ (by first | exact Nat.le_refl _ | (simp; done) | (simp; omega)) _ | with_reducible refine Below.drew ?_))⟩
    | some n =>
      have HM := hide (maj_num h2 hw)
      rw [hw] at CN
      simp only [nret, Option.getD_some, Option.isSome_some] at CN
      clear h1 h2 hw hz
      go_enter Tryd.func16, Tryd.ntmps16
      go_wp2_with fail
      refine (CI.out _).mono ?_
      rintro e w1 ⟨rfl, rfl⟩
      go_wp2_with fail
      refine (CN.out _ E0.out).mono ?_
      rintro e w2 ⟨rfl, b2⟩
      have hB2 := hB0.trans (b2.mono hB0.size)
      obtain ⟨lt, c0, c1, f0, f1⟩ := L0.out.later b2
      go_wp2_with fail
      exact bodyPost_ret (v := lval (s.extract 0 i) n) (by simp [results, Tryd.results16, go_sem, c0, c1]) rfl ⟨ret_lof HM.out, (by repeat (first | with_reducible assumption | with_reducible exact Below.refl _ _ | with_reducible refine Below.setCell ?_ (by first | exact Nat.le_refl _ | (simp; done) | (simp; omega)) _ | with_reducible refine bal ?_ _ | with_reducible refine Below.alloc ?_ (by first | exact Nat.le_refl _ | (simp; done) | (simp; omega)) _ | with_reducible refine Below.drew ?_))⟩

set_option maxHeartbeats 2000000 in
set_option maxRecDepth 100000 in
theorem pmajor_any (s : ByteArray) (w : World) (hs : s.size ≤ 5000) (he : Env w) :
    Calls Tryd.prog 11 #[.string s] w fun e w' => e = .returned (mval s.data.toList) ∧ Below w.heap.size w w' := by
  have CL := hide (lineOf_any s w hs he)
  clear he
  unfold lof at CL
  unfold mval
  generalize str (maj s.data.toList).1 = x at *
  generalize (maj s.data.toList).2 = n at *
  go_enter Tryd.func11, Tryd.ntmps11
  go_wp2_with fail
  refine CL.out.mono ?_
  rintro e w1 ⟨rfl, b1⟩
  obtain ⟨lt, c0, c1, f0, f1⟩ := LineAt.new w1 x n
  have hB : Below w.heap.size w (w1.alloc (.cells #[.string x, .int .i64 n] 40)) := b1.alloc b1.size _
  go_wp2_with fail
  go_quiet (fail)
  go_wp2_with fail
  go_ret2
  exact ⟨rfl, step hB (belDrewN _ _)⟩

set_option maxHeartbeats 2000000 in
set_option maxRecDepth 100000 in
theorem lfits_any (x : ByteArray) (n : Int) (v : V) (w : World) :
    Calls Tryd.prog 17 #[lval x n, val v] w fun e w' => e = .returned (.bool ((n == v.a) || ((n == 0) && (v.a == 1)))) ∧ Below w.heap.size w w' := by
  obtain ⟨a, b, c, p⟩ := v
  have hB0 : Below w.heap.size w (w.alloc (.cells #[.string x, .int .i64 n] 40)) := (Below.refl _ _).alloc (Nat.le_refl _) _
  have hB1 : Below (w.alloc (.cells #[.string x, .int .i64 n] 40)).heap.size (w.alloc (.cells #[.string x, .int .i64 n] 40)) ((w.alloc (.cells #[.string x, .int .i64 n] 40)).alloc (.cells #[.int .i64 a, .int .i64 b, .int .i64 c, .string p] 28)) := (Below.refl _ _).alloc (Nat.le_refl _) _
  have L0 := hide ((LineAt.new w x n).later hB1)
  have V0 := hide (VarAt.new (w.alloc (.cells #[.string x, .int .i64 n] 40)) ⟨a, b, c, p⟩)
  have hB := hide (hB0.trans (hB1.mono hB0.size))
  have hz : (w.alloc (.cells #[.string x, .int .i64 n] 40)).heap.size = w.heap.size + 1 := by simp
  rw [hz] at V0
  clear hB0 hB1 hz
  generalize hw2 : (w.alloc (.cells #[.string x, .int .i64 n] 40)).alloc (.cells #[.int .i64 a, .int .i64 b, .int .i64 c, .string p] 28) = w2 at *
  have HW := hide hw2
  clear hw2
  obtain ⟨lt, c0, c1, f0, f1⟩ := L0.out
  obtain ⟨lt2, d0, -, -, -, -, -, -, -⟩ := V0.out
  have HR : Hid (((n == a) || ((n == 0) && (a == 1))) = ((n == a) || ((n == 0) && (a == 1)))) := rfl
  show Calls Tryd.prog 17 #[lval x n, val ⟨a, b, c, p⟩] w fun e w' => e = .returned (.bool ((n == a) || ((n == 0) && (a == 1)))) ∧ Below w.heap.size w w'
  generalize hR : ((n == a) || ((n == 0) && (a == 1))) = R
  rw [hR] at HR
  have HS := hide hR
  clear hR HR
  by_cases hn : n = 0
  · subst hn
    have n0 : ((0 : Int) == 0) = true := rfl
    have key : ∀ (b1 b2 : Bool), decide (0 ≤ a) = b1 → decide (a < 2) = b2 → Calls Tryd.prog 17 #[lval x 0, val ⟨a, b, c, p⟩] w fun e w' => e = .returned (.bool R) ∧ Below w.heap.size w w' := by
      intro b1 b2 h1 h2
      have HX : Hid (R = (b1 && b2)) := by
        show _ = _
        rw [← HS.out, ← h1, ← h2, Bool.eq_iff_iff]
        simp
        omega
      cases b1 <;> cases b2 <;>
      ( go_enter Tryd.func17, Tryd.ntmps17
        go_wp2_with (rw [HW.out])
        go_ret
        exact ⟨ret_bool HX.out.symm, hB.out⟩ )
    exact key _ _ rfl rfl
  · have n0 : (n == 0) = false := by simpa using hn
    have key : ∀ (b1 : Bool), (a == n) = b1 → Calls Tryd.prog 17 #[lval x n, val ⟨a, b, c, p⟩] w fun e w' => e = .returned (.bool R) ∧ Below w.heap.size w w' := by
      intro b1 h1
      have HX : Hid (R = b1) := by
        show _ = _
        rw [← HS.out, n0, ← h1, Bool.false_and, Bool.or_false, Bool.eq_iff_iff, beq_iff_eq, beq_iff_eq]
        exact eq_comm
      clear hn
      cases b1 <;>
      ( go_enter Tryd.func17, Tryd.ntmps17
        go_wp2_with (rw [HW.out])
        go_ret
        exact ⟨ret_bool HX.out.symm, hB.out⟩ )
    exact key _ rfl

set_option maxHeartbeats 2000000 in
set_option maxRecDepth 100000 in
theorem pfits_any (s : ByteArray) (v : V) (w : World) (hs : s.size ≤ 5000) (he : Env w) :
    Calls Tryd.prog 13 #[.string s, val v] w fun e w' => e = .returned (.bool (fits s.data.toList v.a)) ∧ Below w.heap.size w w' := by
  have CL := hide (fun W hW => lineOf_any s W hs hW)
  have HF := hide (fits_when s.data.toList v.a)
  unfold lof at CL
  generalize str (maj s.data.toList).1 = x at *
  generalize (maj s.data.toList).2 = n at *
  have CF := hide (fun W => lfits_any x n v W)
  obtain ⟨a, b, c, p⟩ := v
  have V0 := hide (VarAt.new w ⟨a, b, c, p⟩)
  have hB0 : Below w.heap.size w (w.alloc (.cells #[.int .i64 a, .int .i64 b, .int .i64 c, .string p] 28)) := (Below.refl _ _).alloc (Nat.le_refl _) _
  have E0 := hide (he.later hB0)
  have HB0 := hide hB0
  clear he hB0
  show Calls Tryd.prog 13 #[.string s, val ⟨a, b, c, p⟩] w fun e w' => e = .returned (.bool (fits s.data.toList a)) ∧ Below w.heap.size w w'
  generalize fits s.data.toList a = R at *
  go_enter Tryd.func13, Tryd.ntmps13
  go_wp2_with fail
  generalize w.alloc (.cells #[.int .i64 a, .int .i64 b, .int .i64 c, .string p] 28) = W at *
  have K0 : ∀ w', Below W.heap.size W w' → w'.cell? ⟨w.heap.size, 0, none⟩ = some (.int .i64 a) := fun w' h => cellLater h V0.out.c0
  have K1 : ∀ w', Below W.heap.size W w' → w'.cell? ⟨w.heap.size, 1, none⟩ = some (.int .i64 b) := fun w' h => cellLater h V0.out.c1
  have K2 : ∀ w', Below W.heap.size W w' → w'.cell? ⟨w.heap.size, 2, none⟩ = some (.int .i64 c) := fun w' h => cellLater h V0.out.c2
  have K3 : ∀ w', Below W.heap.size W w' → w'.cell? ⟨w.heap.size, 3, none⟩ = some (.string p) := fun w' h => cellLater h V0.out.c3
  have hB0 := Below.refl W.heap.size W
  go_region_held3 (fun w' => Below W.heap.size W w') (first | assumption | exact (by repeat (first | with_reducible assumption | with_reducible exact Below.refl _ _ | with_reducible refine Below.setCell ?_ (by first | exact Nat.le_refl _ | (simp; done) | (simp; omega)) _ | with_reducible refine bal ?_ _ | with_reducible refine Below.alloc ?_ (by first | exact Nat.le_refl _ | (simp; done) | (simp; omega)) _ | with_reducible refine Below.drew ?_))) (first
    | (go_at_call 16; refine (CL.out _ (E0.out.later (by first | assumption | exact (by repeat (first | with_reducible assumption | with_reducible exact Below.refl _ _ | with_reducible refine Below.setCell ?_ (by first | exact Nat.le_refl _ | (simp; done) | (simp; omega)) _ | with_reducible refine bal ?_ _ | with_reducible refine Below.alloc ?_ (by first | exact Nat.le_refl _ | (simp; done) | (simp; omega)) _ | with_reducible refine Below.drew ?_))))).mono ?_; rintro e w5 ⟨rfl, b5⟩; have b5 : Below W.heap.size W w5 := (by refine Below.trans ?_ (Below.mono b5 ?_); rotate_left; exact Below.size (by with_reducible assumption); with_reducible assumption))
    | (go_at_call 17; refine (CF.out _).mono ?_; rintro e w5 ⟨rfl, b5⟩; have b5 : Below W.heap.size W w5 := (by refine Below.trans ?_ (Below.mono b5 ?_); rotate_left; exact Below.size (by with_reducible assumption); with_reducible assumption)))
  rename_i hHeld
  go_wp2_with fail
  go_ret
  exact ⟨ret_bool HF.out.symm, HB0.out.trans (hHeld.mono HB0.out.size)⟩

set_option maxHeartbeats 2000000 in
set_option maxRecDepth 100000 in
theorem covers_any (x : ByteArray) (n : Int) (r : ByteArray) (w : World) :
    Calls Tryd.prog 18 #[lval x n, .string r] w fun e w' => e = .returned (.bool (inside r.data.toList x.data.toList)) ∧ Below w.heap.size w w' := by
  have hB0 : Below w.heap.size w (w.alloc (.cells #[.string x, .int .i64 n] 40)) := (Below.refl _ _).alloc (Nat.le_refl _) _
  obtain ⟨lt, c0, c1, f0, f1⟩ := LineAt.new w x n
  have CW := hide (fun W => pwithin_any r x W)
  go_enter Tryd.func18, Tryd.ntmps18
  go_wp2_with fail
  refine (CW.out _).mono ?_
  rintro e w2 ⟨rfl, rfl⟩
  go_wp2_with fail
  go_ret
  exact ⟨rfl, hB0⟩

end Go.Proofs.YtcoakjgeadkfoaaDoor
