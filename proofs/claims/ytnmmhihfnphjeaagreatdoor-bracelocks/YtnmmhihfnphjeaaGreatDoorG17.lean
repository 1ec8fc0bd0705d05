/-
  Contracts of numberRow, number.
  Contracts of slices.Index, slices.Contains at texts; of the reader's key.
-/
import Derived.Test.YtnmmhihfnphjeaaGreatDoorG16
import Derived.Test.YtnmmhihfnphjeaaGreatDoorG03
import Derived.Laws.RangeAny
import Derived.Laws.Runes
import Derived.WalkMore
import Derived.Deep.LoopGhost

namespace Go.Proofs.YtnmmhihfnphjeaaGreatDoor.B
set_option linter.unusedSimpArgs false
set_option linter.unusedVariables false
open Go.RowKit Go.Vr Go.Sort Go.Tx Go.Lib
open Go.Br hiding Bs
open Go.Proofs.YtnmmhihfnphjeaaGreatDoor.W (IsCur Oth Kept number_any)
attribute [local go_sem] setCellDrewN allocDrewN

/-- The iterator moved on. -/
def iterTo (w : World) (N : Nat) (s : ByteArray) (p : Nat) : World := { w with heap := w.heap.setIfInBounds N (.stringIter s p) }
theorem iterTo_size (w : World) (N : Nat) (s : ByteArray) (p : Nat) : (iterTo w N s p).heap.size = w.heap.size := by simp [iterTo]
theorem iterTo_at (w : World) (N : Nat) (s : ByteArray) (p : Nat) (h : N < w.heap.size) : (iterTo w N s p).heap[N]? = some (.stringIter s p) := by simp [iterTo, h]
theorem run_next_at (P : Program) (w : World) (N : Nat) (s : ByteArray) (pos : Nat) (ty : TypeId) (hN : w.heap[N]? = some (.stringIter s pos)) (h : pos < s.size) :
    (Instr.next (.pointer (some ⟨N, 0, none⟩)) true ty).run P w = .ok (.tuple #[.bool true, .int .i64 pos, .int .i32 (Utf8.decode s pos).1]) (iterTo w N s (pos + (Utf8.decode s pos).2)) := by
  simp only [Instr.next, getObj, setObj, Sem.run_bind, Sem.run, hN, Result.andThen, h, if_true]
  simp [goInt, Sem.run, iterTo, hN]
theorem run_next_stop (P : Program) (w : World) (N : Nat) (s : ByteArray) (pos : Nat) (ty : TypeId) (hN : w.heap[N]? = some (.stringIter s pos)) (h : ¬ pos < s.size) :
    (Instr.next (.pointer (some ⟨N, 0, none⟩)) true ty).run P w = .ok (.tuple #[.bool false]) w := by
  simp [Instr.next, getObj, Sem.run, hN, h]
theorem iterTo_below {w W : World} {s : ByteArray} {p : Nat} (h : Below w.heap.size w W) : Below w.heap.size w (iterTo W w.heap.size s p) := by
  obtain ⟨h1, h2, h3, h4, h5⟩ := h
  refine ⟨h1, h2, h3, by rw [iterTo_size]; exact h4, fun k hk => ?_⟩
  rw [← h5 k hk]
  have : ¬ w.heap.size = k := by omega
  simp [iterTo, Array.getElem?_setIfInBounds, this]

/-- The row so far. -/
def RowTo (s : ByteArray) (i : Nat) : Prop := ∀ j c, j < i → s.data.toList[j]? = some c → rowC j c = true
theorem RowTo.succ {s : ByteArray} {i : Nat} {c : UInt8} (h : RowTo s i) (hc : s.data.toList[i]? = some c) (h2 : rowC i c = true) : RowTo s (i + 1) := fun j d hj e => by
  by_cases e2 : j = i
  · subst e2
    rw [hc] at e
    rw [← Option.some.inj e]; exact h2
  · exact h j d (by omega) e
theorem RowTo.stop {s : ByteArray} {i : Nat} (h : RowTo s i) (hi : i ≤ s.size) (hs : ∀ c, s.data.toList[i]? = some c → rowC i c = false) : str (rowM s.data.toList) = s.extract 0 i := by
  rw [row_stop _ i (by rw [len_eq]; exact hi) h hs]
  exact ba_ext (by rw [str_list]; simp)

set_option maxHeartbeats 4000000 in
set_option maxRecDepth 1000000 in
theorem numberRow_any (s : ByteArray) (w : World) (hs : s.size ≤ 100000) :
    Calls Tryz.prog 94 #[.string s] w fun e w' => e = .returned (.string (str (rowM s.data.toList))) ∧ Below w.heap.size w w' := by
  go_enter Tryz.func94, Tryz.ntmps94
  go_wp2_with fail
  go_loopg [9, 10] s.size (fun g _ _ wx => ∃ i : Nat, s.size - i ≤ g ∧ i ≤ s.size ∧ Hid (wx.heap[w.heap.size]? = some (.stringIter s i)) ∧ Hid (RowTo s i) ∧ Hid (Below w.heap.size w wx))
  case atStart => exact ⟨0, by omega, by omega, hide (World.iter_heap w s 0), hide (fun j c hj => absurd hj (by omega)), hide ((Below.refl _ _).alloc (Nat.le_refl _) _)⟩
  case round =>
    obtain ⟨i, hig, hi, HI, HN, HB⟩ := hrel
    have i0 : (0 : Int) ≤ (i : Int) := by omega
    by_cases hlt : i < s.size
    · cases gk with
      | zero => omega
      | succ g =>
        have i1 : (i : Int) ≤ (s.size : Int) := by omega
        have hNs : w.heap.size < wr.heap.size := (Array.getElem?_eq_some_iff.1 HI.out).1
        have hxl : s.data.toList[i]? = some s[i] := Lib.data_getElem? s i hlt
        have hnx0 := fun ty => run_next_at Tryz.prog wr w.heap.size s i ty HI.out hlt
        by_cases ha : (s[i]).toNat < 128
        · rw [decode_ascii s i hlt ha] at hnx0
          have HI2 := hide (iterTo_at wr w.heap.size s (i + 1) hNs)
          have HB2 := hide (iterTo_below (s := s) (p := i + 1) HB.out)
          simp only at hnx0
          generalize hx : s[i] = x at *
          generalize hW2 : iterTo wr w.heap.size s (i + 1) = W2 at *
          have HX := hide hxl
          have HG := hide (And.intro hig hlt)
          have hn45 : ¬ (x.toNat : Int) = 45 → ¬ x = 45 := fun h e => h (by rw [e]; rfl)
          clear hx hW2 hxl ha hNs hig
          rcases (show ((x.toNat : Int) = 45 ∧ i = 0) ∨ ((x.toNat : Int) = 45 ∧ 0 < i) ∨ (48 ≤ (x.toNat : Int) ∧ (x.toNat : Int) ≤ 57) ∨ ((x.toNat : Int) < 48 ∧ ¬ (x.toNat : Int) = 45) ∨ 57 < (x.toNat : Int) by omega) with ⟨h1, h2⟩ | ⟨h1, h2⟩ | ⟨h1, h2⟩ | ⟨h1, h2⟩ | h1
          · have HR := hide (HN.out.succ HX.out (by rw [h2]; have : x = 45 := UInt8.toNat_inj.1 (by show x.toNat = 45; omega); rw [this]; rfl))
            have d1 : ((x.toNat : Int) == 45) = true := by simpa using h1
            have d2 : ((i : Int) == 0) = true := by simpa using h2
            have d3 : decide ((48 : Int) ≤ (x.toNat : Int)) = false := decide_eq_false (by omega)
            clear h1 h2 hn45
            go_wp2_with fail
            go_roundg g
            case measure => have := HG.out; omega
            case rel => exact ⟨i + 1, by have := HG.out; omega, by have := HG.out.2; omega, HI2, HR, HB2⟩
          · have HR := hide (HN.out.stop hi (fun c hc => by
              obtain rfl : x = c := by rw [HX.out] at hc; exact Option.some.inj hc
              have : x = 45 := UInt8.toNat_inj.1 (by show x.toNat = 45; omega)
              unfold rowC
              rw [this, show (i == 0) = false by simp; omega]; rfl))
            have d1 : ((x.toNat : Int) == 45) = true := by simpa using h1
            have d2 : ((i : Int) == 0) = false := by simp; omega
            have d3 : decide ((48 : Int) ≤ (x.toNat : Int)) = false := decide_eq_false (by omega)
            clear h1 h2 hn45
            go_wp2_with fail
            go_ret
            exact ⟨ret_str HR.out.symm, HB2.out⟩
          · have HR := hide (HN.out.succ HX.out (by unfold rowC isDig; rw [decide_eq_true h1, decide_eq_true h2]; simp))
            have d1 : ((x.toNat : Int) == 45) = false := by simp; omega
            have d3 : decide ((48 : Int) ≤ (x.toNat : Int)) = true := decide_eq_true h1
            have d4 : decide ((x.toNat : Int) ≤ 57) = true := decide_eq_true h2
            clear h1 h2 hn45
            go_wp2_with fail
            go_roundg g
            case measure => have := HG.out; omega
            case rel => exact ⟨i + 1, by have := HG.out; omega, by have := HG.out.2; omega, HI2, HR, HB2⟩
          · have HR := hide (HN.out.stop hi (fun c hc => by
              obtain rfl : x = c := by rw [HX.out] at hc; exact Option.some.inj hc
              unfold rowC isDig
              rw [show (x == 45) = false by simpa using hn45 h2, decide_eq_false (show ¬ 48 ≤ (x.toNat : Int) by omega)]; rfl))
            have d1 : ((x.toNat : Int) == 45) = false := by simpa using h2
            have d3 : decide ((48 : Int) ≤ (x.toNat : Int)) = false := decide_eq_false (by omega)
            clear h1 h2 hn45
            go_wp2_with fail
            go_ret
            exact ⟨ret_str HR.out.symm, HB2.out⟩
          · have HR := hide (HN.out.stop hi (fun c hc => by
              obtain rfl : x = c := by rw [HX.out] at hc; exact Option.some.inj hc
              unfold rowC isDig
              rw [show (x == 45) = false by simpa using hn45 (by omega), decide_eq_false (show ¬ (x.toNat : Int) ≤ 57 by omega)]; simp))
            have d1 : ((x.toNat : Int) == 45) = false := by simp; omega
            have d3 : decide ((48 : Int) ≤ (x.toNat : Int)) = true := decide_eq_true (by omega)
            have d4 : decide ((x.toNat : Int) ≤ 57) = false := decide_eq_false (by omega)
            clear h1 hn45
            go_wp2_with fail
            go_ret
            exact ⟨ret_str HR.out.symm, HB2.out⟩
        · have hd := decode_high s i hlt (by omega)
          have HR := hide (HN.out.stop hi (fun c hc => by
            obtain rfl : s[i] = c := by rw [hxl] at hc; exact Option.some.inj hc
            have h1 : ¬ ((s[i]).toNat : Int) ≤ 57 := by omega
            unfold rowC isDig
            rw [show (s[i] == 45) = false by rw [beq_eq_false_iff_ne]; intro e; rw [e] at ha; exact ha (by decide), decide_eq_false h1]; simp))
          generalize hD : Utf8.decode s i = D at *
          obtain ⟨r, n⟩ := D
          simp only at hnx0 hd
          have HB2 := hide (iterTo_below (s := s) (p := i + n) HB.out)
          generalize hW2 : iterTo wr w.heap.size s (i + n) = W2 at *
          have d1 : ((r : Int) == 45) = false := by simp; omega
          have d3 : decide ((48 : Int) ≤ (r : Int)) = true := decide_eq_true (by omega)
          have d4 : decide ((r : Int) ≤ 57) = false := decide_eq_false (by omega)
          clear hD hW2 hxl ha hd hig hNs
          go_wp2_with fail
          go_ret
          exact ⟨ret_str HR.out.symm, HB2.out⟩
    · obtain rfl : i = s.size := by omega
      have hnx := fun ty => run_next_stop Tryz.prog wr w.heap.size s s.size ty HI.out hlt
      have HR := hide (HN.out.stop (Nat.le_refl _) (fun c hc => by
        have := (List.getElem?_eq_some_iff.1 hc).1
        rw [len_eq] at this
        omega))
      clear hig hi hlt
      go_wp2_with fail
      go_ret
      exact ⟨ret_str (by rw [HR.out]; exact ba_ext (by simp)), HB.out⟩

/-- How number ends. -/
def NPost (b c : Nat) (s : ByteArray) (p dp : Nat) (w : World) (r : R Int) (e : Ending) (w' : World) : Prop := Fr w.heap.size b c w w' ∧ match r with
  | .inl (t, q) => Good b c s p dp w' q ∧ e = .returned (.tuple #[(leafSV (.inr (.inl t))).val, .int .i64 0])
  | .inr (n, q) => n = 1 ∧ Bad b c s w' q ∧ e = .returned (.tuple #[SV.zero.val, .int .i64 1])

set_option maxHeartbeats 4000000 in
theorem number_rd (b c : Nat) (s : ByteArray) (p dp : Nat) (w : World) (h : Rd w b c s p dp) (hs : s.size ≤ 100000) :
    Calls Tryz.prog 78 #[.pointer (some ⟨b, 0, none⟩)] w (NPost b c s p dp w (numM (rst s p))) := by
  obtain ⟨hbl, hcl⟩ := h.lt
  have HR := hide h
  clear h
  have H0 := hide (show Below w.heap.size w (w.alloc (.cells #[.int .i64 0, .int .i64 0, .string ⟨#[]⟩, .slice none 0 0, .slice none 0 0] 28)) from (Below.refl _ _).alloc (Nat.le_refl _) _)
  have hX0 := hide (Box.new w #[.int .i64 0, .int .i64 0, .string ⟨#[]⟩, .slice none 0 0, .slice none 0 0] 28)
  go_enter Tryz.func78, Tryz.ntmps78
  go_wp2_with fail
  refine (rest_rd b c s p dp _ (HR.out.below H0.out) hs).mono ?_
  rintro e w1 ⟨rfl, n, rfl⟩
  have CN := hide (numberRow_any (s.extract p s.size) ((w.alloc (.cells #[.int .i64 0, .int .i64 0, .string ⟨#[]⟩, .slice none 0 0, .slice none 0 0] 28)).drewN n) (by rw [← len_eq, W.rest_list, List.length_drop, len_eq]; omega))
  rw [W.rest_list] at CN
  obtain ⟨i, hi, hri⟩ := rowM_pre (rst s p)
  rw [rst_len] at hi
  have hrs : (str (rowM (rst s p))).size = i := by rw [str_size, hri, List.length_take, rst_len]; omega
  have HRI := hide hri
  have HNM := hide (numM_eq (rst s p))
  go_wp2_with fail
  refine CN.out.mono ?_
  rintro e w2 ⟨rfl, b2⟩
  have B2 := H0.out.trans (((belDrewN _ n).trans (b2.mono (Nat.le_refl _))).mono H0.out.size)
  have R2 := hide (HR.out.below B2)
  have X2 := hide ((hX0.out.drewN n).later b2)
  have HB2 := hide B2
  have hrl : Hid ((rowM (rst s p)).length = i) := by show _ = _; rw [← str_size]; exact hrs
  clear b2 B2 hX0 H0 CN hri
  have CP := hide (fun W => cutPrefix_any (str (rowM (rst s p))) ⟨#[45]⟩ W)
  rw [str_list] at CP
  have e45 : (ByteArray.mk #[45]).data.toList = [45] := rfl
  rw [e45] at CP
  have CN := hide (fun W => number_any (str (trimPrefix (rowM (rst s p)) [45])) W (by
    rw [str_size]
    have : (trimPrefix (rowM (rst s p)) [45]).length ≤ (rowM (rst s p)).length := by unfold trimPrefix; split <;> simp
    have := hrl.out
    unfold maxLen
    omega))
  rw [str_list] at CN
  have hnb : okNum (trimPrefix (rowM (rst s p)) [45]) = true → 0 ≤ numVal (trimPrefix (rowM (rst s p)) [45]) ∧ numVal (trimPrefix (rowM (rst s p)) [45]) ≤ 999999999 := fun h => by
    have h2 := Vr.okNum_dec _ h
    refine ⟨h2.2, ?_⟩
    unfold okNum at h
    simp only [Bool.and_eq_true, decide_eq_true_eq] at h
    have := (numVal_bd9 (str (trimPrefix (rowM (rst s p)) [45])) (trimPrefix (rowM (rst s p)) [45]).length (by rw [str_size]; exact Nat.le_refl _) h.1.1.2 (by rw [str_list, List.take_length]; exact h.2)).2
    rw [str_list, List.take_length] at this
    exact this
  have HNB := hide hnb
  clear hnb
  unfold numR at CN
  generalize trimPrefix (rowM (rst s p)) [45] = dg at *
  generalize hasPrefix (rowM (rst s p)) [45] = bl at *
  have xc := X2.out.c
  have xf := X2.out.f
  go_wp2_with fail
  refine (CP.out _).mono ?_
  rintro e w3 ⟨rfl, hw⟩
  rw [hw]
  clear hw w3
  go_wp2_with fail
  refine (CN.out _).mono ?_
  rintro e w3 ⟨rfl, hw⟩
  rw [hw]
  clear hw w3 CP CN
  cases hok : okNum dg with
  | false =>
    rw [hok] at HNM
    have hq : numM (rst s p) = .inr (1, rst s p) := HNM.out
    have HQ := hide hq
    clear hq hok HNM HNB
    go_wp2_with fail
    obtain ⟨xs, xb⟩ := box_set5 X2.out (.int .i64 0) (.int .i64 0) (.string ⟨#[]⟩) (.slice none 0 0) (.slice none 0 0)
    have xd := xs.c
    have B3 := HB2.out.trans (xb _ (Nat.le_refl _))
    exact bodyPost_ret (v := .tuple #[.agg #[.int .i64 0, .int .i64 0, .string ⟨#[]⟩, .slice none 0 0, .slice none 0 0], .int .i64 1]) (by simp [results, Tryz.results78, go_sem, *]) rfl (by unfold NPost; rw [HQ.out]; exact ⟨Fr.ofBelow B3, rfl, ⟨p, dp, rfl, HR.out.below B3⟩, rfl⟩)
  | true =>
    have hnb := HNB.out hok
    rw [hok] at HNM
    rw [hrl.out, rst_drop] at HNM
    generalize numVal dg = nv at *
    obtain ⟨n0, n9⟩ := hnb
    generalize str (rowM (rst s p)) = RW at *
    have CPS := hide (fun W hW => pass_rd b c s p dp i W hW hs hi)
    have END : ∀ (v : Int) (w3 : World) (W3 : World), Hid (numM (rst s p) = .inl (v, rst s (p + i))) → Hid (Rd w3 b c s (p + i) dp) → Hid (Oth c w2 w3) → Hid (Below w.heap.size w3 W3) → NPost b c s p dp w (numM (rst s p)) (.returned (.tuple #[(leafSV (.inr (.inl v))).val, .int .i64 0])) W3 := by
      intro v w3 W3 hq hr ho hb
      unfold NPost
      rw [hq.out]
      exact ⟨((Fr.ofBelow HB2.out).trans (Fr.ofOth ho.out)).trans (Fr.ofBelow hb.out), ⟨p + i, by omega, rfl, hr.out.under hb.out hbl hcl⟩, rfl⟩
    cases bl with
    | false =>
      have HQ : Hid (numM (rst s p) = .inl (nv, rst s (p + i))) := HNM.out
      clear HNM HNB hok hrl HRI
      go_wp2_with fail
      refine (CPS.out _ R2.out).mono ?_
      rintro e w3 ⟨rfl, R3, O3⟩
      have X3 := X2.out.of_block (O3.block w.heap.size (by omega))
      have xc := X3.c
      have xf := X3.f
      have HR3 := hide R3
      have HO3 := hide O3
      have HE := hide END
      clear R3 O3 END CPS
      go_wp2_with fail
      obtain ⟨xs, xb⟩ := box_set5 X3 (.int .i64 2) (.int .i64 nv) (.string ⟨#[]⟩) (.slice none 0 0) (.slice none 0 0)
      have xd := xs.c
      exact bodyPost_ret (v := .tuple #[.agg #[.int .i64 2, .int .i64 nv, .string ⟨#[]⟩, .slice none 0 0, .slice none 0 0], .int .i64 0]) (by simp [results, Tryz.results78, go_sem, *]) rfl (HE.out nv w3 _ HQ HR3 HO3 (hide (xb _ (Nat.le_refl _))))
    | true =>
      by_cases hz : nv = 0
      · have HQ : Hid (numM (rst s p) = .inr (1, rst s p)) := by have := HNM.out; rw [hz] at this; exact this
        have dz : (nv == 0) = true := by simpa using hz
        clear HNM HNB hok hrl HRI CPS END
        go_wp2_with fail
        obtain ⟨xs, xb⟩ := box_set5 X2.out (.int .i64 0) (.int .i64 0) (.string ⟨#[]⟩) (.slice none 0 0) (.slice none 0 0)
        have xd := xs.c
        have B3 := HB2.out.trans (xb _ (Nat.le_refl _))
        exact bodyPost_ret (v := .tuple #[.agg #[.int .i64 0, .int .i64 0, .string ⟨#[]⟩, .slice none 0 0, .slice none 0 0], .int .i64 1]) (by simp [results, Tryz.results78, go_sem, *]) rfl (by unfold NPost; rw [HQ.out]; exact ⟨Fr.ofBelow B3, rfl, ⟨p, dp, rfl, HR.out.below B3⟩, rfl⟩)
      · have HQ : Hid (numM (rst s p) = .inl (-nv, rst s (p + i))) := by
          have := HNM.out
          rw [show (nv == 0) = false by simpa using hz] at this
          exact this
        have dz : (nv == 0) = false := by simpa using hz
        clear HNM HNB hok hrl HRI hz
        go_wp2_with fail
        refine (CPS.out _ R2.out).mono ?_
        rintro e w3 ⟨rfl, R3, O3⟩
        have X3 := X2.out.of_block (O3.block w.heap.size (by omega))
        have xc := X3.c
        have xf := X3.f
        have HR3 := hide R3
        have HO3 := hide O3
        have HE := hide END
        clear R3 O3 END CPS
        go_wp2_with fail
        obtain ⟨xs, xb⟩ := box_set5 X3 (.int .i64 2) (.int .i64 (-nv)) (.string ⟨#[]⟩) (.slice none 0 0) (.slice none 0 0)
        have xd := xs.c
        exact bodyPost_ret (v := .tuple #[.agg #[.int .i64 2, .int .i64 (-nv), .string ⟨#[]⟩, .slice none 0 0, .slice none 0 0], .int .i64 0]) (by simp [results, Tryz.results78, go_sem, *]) rfl (HE.out (-nv) w3 _ HQ HR3 HO3 (hide (xb _ (Nat.le_refl _))))

end Go.Proofs.YtnmmhihfnphjeaaGreatDoor.B

namespace Go.Proofs.YtnmmhihfnphjeaaGreatDoor.B
set_option linter.unusedSimpArgs false
set_option linter.unusedVariables false
open Go.RowKit Go.Vr Go.Sort Go.Tx Go.Lib
open Go.Br hiding Bs
open Go.Proofs.YtnmmhihfnphjeaaGreatDoor.W (IsCur Oth Kept take_any while_any unquote_any unqV inSet)
attribute [local go_sem] setCellDrewN allocDrewN

theorem ET_at {w : World} {b off n : Nat} {l : List Bs} (h : ERow ET w (some ⟨b, off, none⟩) n l) (j : Nat) (x : Bs) (hj : l[j]? = some x) : w.cell? ⟨b, off + j, none⟩ = some (.string (str x)) := by
  have := h.at_ j x hj 0 (.string (str x)) rfl
  simpa [ET] using this

def idxV : Option Nat → Int
  | some j => j
  | none => -1
theorem idx_some {l : List Bs} {x : Bs} {j : Nat} (hx : l[j]? = some x) (hn : (l.take j).contains x = false) : l.findIdx? (fun y => y == x) = some j := by
  obtain ⟨hj, e⟩ := List.getElem?_eq_some_iff.1 hx
  rw [List.findIdx?_eq_some_iff_getElem]
  refine ⟨hj, by rw [e]; simp, fun i hi => ?_⟩
  intro h
  have h2 : l[i] = x := by simpa using h
  have : x ∈ l.take j := by
    rw [← h2, List.mem_take_iff_getElem]
    exact ⟨i, by omega, rfl⟩
  rw [List.contains_iff_mem.2 this] at hn
  cases hn
theorem idx_none {l : List Bs} {x : Bs} (hn : l.contains x = false) : l.findIdx? (fun y => y == x) = none := by
  rw [List.findIdx?_eq_none_iff]
  intro y hy
  rw [beq_eq_false_iff_ne]
  intro e
  rw [e] at hy
  rw [List.contains_iff_mem.2 hy] at hn
  cases hn
theorem idx_has (l : List Bs) (x : Bs) : decide ((0 : Int) ≤ idxV (l.findIdx? (fun y => y == x))) = l.contains x := by
  cases h : l.contains x with
  | false => rw [idx_none h]; rfl
  | true =>
    cases h2 : l.findIdx? (fun y => y == x) with
    | none =>
      rw [List.findIdx?_eq_none_iff] at h2
      rw [List.contains_iff_mem] at h
      have := h2 x h
      simp at this
    | some j => unfold idxV; simp

set_option maxHeartbeats 2000000 in
set_option maxRecDepth 100000 in
theorem index_any (a : Option Addr) (n c : Nat) (l : List Bs) (x : ByteArray) (w : World) (h : ERow ET w a n l) (hn : n ≤ 100000) :
    Calls Tryz.prog 79 #[.slice a n c, .string x] w fun e w' => e = .returned (.int .i64 (idxV (l.findIdx? (fun y => y == x.data.toList)))) ∧ w' = w := by
  have HR := hide h
  have hl := h.n
  clear h
  go_enter Tryz.func79, Tryz.ntmps79
  go_wp2_with fail
  go_loop [8] (fun i => ∃ k : Nat, k ≤ n ∧ i = .int .i64 k ∧ Hid ((l.take k).contains x.data.toList = false)) (fun i => n - (RowKit.intOf i).toNat)
  case atStart => exact ⟨0, by omega, rfl, hide (by simp)⟩
  case round =>
    obtain ⟨k, hk, rfl, HN⟩ := hrel
    by_cases hlt : k < n
    · obtain ⟨b, off, rfl⟩ := HR.out.spot (by omega)
      have hlk : k < l.length := by omega
      have hc := ET_at HR.out k l[k] (List.getElem?_eq_getElem hlk)
      have hx0 : l[k]? = some l[k] := List.getElem?_eq_getElem hlk
      have HX := hide hx0
      have HT : Hid (l.take (k + 1) = l.take k ++ [l[k]]) := by show _ = _; rw [List.take_succ_eq_append_getElem hlk]
      have i1 : (0 : Int) ≤ (k : Int) := by omega
      have i2 : (k : Int) < (n : Int) := by omega
      clear hx0
      generalize l[k] = y at *
      have hy : (x.toList == (str y).toList) = (x.data.toList == y) := by rw [toList_data, toList_data, str_list]
      by_cases he : x.data.toList = y
      · have d1 : (x.toList == (str y).toList) = true := by rw [hy]; simpa using he
        have HE : Hid (l.findIdx? (fun z => z == x.data.toList) = some k) := by show _ = _; rw [he]; exact idx_some HX.out (by rw [← he]; exact HN.out)
        clear hy he hl hlk
        go_wp2_with fail
        go_ret
        exact ⟨ret_int (by rw [HE.out]; rfl), rfl⟩
      · have d1 : (x.toList == (str y).toList) = false := by rw [hy]; simpa using he
        have HN2 : Hid ((l.take (k + 1)).contains x.data.toList = false) := by
          show _ = _
          have hh := HN.out
          rw [HT.out]
          simp at hh ⊢
          exact ⟨hh, he⟩
        clear hy he hl hlk
        go_wp2_with fail
        go_round
        case rel => exact ⟨k + 1, by omega, by go_num, HN2⟩
        case measure => simp [RowKit.intOf]; omega
    · have HE : Hid (l.findIdx? (fun z => z == x.data.toList) = none) := by
        show _ = _
        have := HN.out
        rw [List.take_of_length_le (by omega)] at this
        exact idx_none this
      clear hl
      go_wp2_with fail
      go_ret
      exact ⟨ret_int (by rw [HE.out]; rfl), rfl⟩

set_option maxHeartbeats 400000 in
theorem contains_any (a : Option Addr) (n c : Nat) (l : List Bs) (x : ByteArray) (w : World) (h : ERow ET w a n l) (hn : n ≤ 100000) :
    Calls Tryz.prog 111 #[.slice a n c, .string x] w fun e w' => e = .returned (.bool (l.contains x.data.toList)) ∧ w' = w := by
  have HI := hide (idx_has l x.data.toList)
  have CI := hide (index_any a n c l x w h hn)
  generalize idxV (l.findIdx? (fun y => y == x.data.toList)) = j at *
  clear h
  go_enter Tryz.func111, Tryz.ntmps111
  go_wp2_with fail
  refine CI.out.mono ?_
  rintro e w2 ⟨rfl, hw⟩
  rw [hw]
  clear hw w2
  go_wp2_with fail
  go_ret
  exact ⟨ret_bool HI.out, rfl⟩

theorem inSet_blk (c : UInt8) : inSet (ByteArray.mk #[32, 9, 10]).data.toList c.toNat = blk c := by
  have e : (ByteArray.mk #[32, 9, 10]).data.toList = [32, 9, 10] := rfl
  rw [e]
  unfold inSet blk
  have h : ∀ z : UInt8, (z.toNat == c.toNat) = (c == z) := fun z => by
    rw [Bool.eq_iff_iff, beq_iff_eq, beq_iff_eq]
    exact ⟨fun h => (UInt8.toNat_inj.1 h).symm, fun h => by rw [h]⟩
  simp only [List.any_cons, List.any_nil, Bool.or_false]
  rw [h, h, h, Bool.or_assoc]
theorem rst_skip (s : ByteArray) (p : Nat) : skip (rst s p) = rst s (p + ((rst s p).takeWhile blk).length) ∧ ((rst s p).takeWhile blk).length ≤ (rst s p).length := by
  have h := List.takeWhile_append_dropWhile (p := blk) (l := rst s p)
  refine ⟨?_, (List.takeWhile_prefix blk).length_le⟩
  unfold skip
  rw [← rst_drop]
  have h2 := List.drop_left (l₁ := (rst s p).takeWhile blk) (l₂ := (rst s p).dropWhile blk)
  rw [h] at h2
  exact h2.symm

/-- While over the blanks, in the reader's words. -/
theorem blanks_rd (b c : Nat) (s : ByteArray) (p dp : Nat) (w : World) (h : Rd w b c s p dp) (hs : s.size ≤ 100000) :
    Calls Tryz.prog 60 #[.pointer (some ⟨c, 0, none⟩), .string ⟨#[32, 9, 10]⟩] w fun e w' => ∃ t p', e = .returned (.string t) ∧ p ≤ p' ∧ skip (rst s p) = rst s p' ∧ Rd w' b c s p' dp ∧ Kept c w w' := by
  obtain ⟨h1, h2⟩ := rst_skip s p
  have hf : (fun c : UInt8 => inSet (ByteArray.mk #[32, 9, 10]).data.toList c.toNat) = blk := funext inSet_blk
  refine (while_any c s ⟨#[32, 9, 10]⟩ p w h.cur (by omega) (by decide)).mono ?_
  rintro e w' ⟨rfl, hc, hk⟩
  rw [hf] at hc
  exact ⟨_, _, rfl, Nat.le_add_right _ _, h1, h.kept hc hk, hk⟩
/-- Take of one sign, in the reader's words. -/
theorem take_rd (b c : Nat) (s : ByteArray) (p dp : Nat) (t : ByteArray) (w : World) (h : Rd w b c s p dp) (hs : s.size ≤ 100000) :
    Calls Tryz.prog 77 #[.pointer (some ⟨c, 0, none⟩), .string t] w fun e w' => e = .returned (.bool (hasPrefix (rst s p) t.data.toList)) ∧ Rd w' b c s (if hasPrefix (rst s p) t.data.toList = true then p + t.size else p) dp ∧ Oth c w w' := by
  refine (take_any c s t p w h.cur (by omega)).mono ?_
  rintro e w' ⟨rfl, hc, ho⟩
  exact ⟨rfl, h.oth hc ho, ho⟩

theorem QRow.fr {α : Type} {E : El α} {w w' : World} {Q : Nat → Prop} {a : Option Addr} {n cp b c : Nat} {l : List α} (h : QRow E w Q a n cp l) (hQ : ∀ k, Q k → k ≠ b ∧ k ≠ c) (hf : Fr w.heap.size b c w w') : QRow E w' Q a n cp l :=
  h.keep (fun k hq hk => hf.block k hk (hQ k hq).1 (hQ k hq).2) (fun _ h _ => h)
theorem VH.fr {w w' : World} {Q : Nat → Prop} {d b c : Nat} {x : Val d} {v : SV} (h : VH w Q d x v) (hQ : ∀ k, Q k → k ≠ b ∧ k ≠ c) (hf : Fr w.heap.size b c w w') : VH w' Q d x v :=
  h.keep (fun k hq hk => hf.block k hk (hQ k hq).1 (hQ k hq).2) (fun _ h _ => h)

/-- How key ends. -/
def KPost (b c : Nat) (s : ByteArray) (p dp : Nat) (w : World) (r : R Bs) (e : Ending) (w' : World) : Prop := Fr w.heap.size b c w w' ∧ match r with
  | .inl (k, q) => Good b c s p dp w' q ∧ e = .returned (.tuple #[.string (str k), .int .i64 0])
  | .inr (n, q) => (n = 1 ∨ n = 4) ∧ Bad b c s w' q ∧ e = .returned (.tuple #[.string ⟨#[]⟩, .int .i64 n])

theorem kp_bad {b c p dp p' dq n : Nat} {s : ByteArray} {w w' : World} {r : R Bs} (hr : Hid (r = .inr (n, rst s p'))) (hn : n = 1 ∨ n = 4) (hf : Fr w.heap.size b c w w') (h : Rd w' b c s p' dq) : KPost b c s p dp w r (.returned (.tuple #[.string ⟨#[]⟩, .int .i64 n])) w' := by
  unfold KPost; rw [hr.out]; exact ⟨hf, hn, ⟨p', dq, rfl, h⟩, rfl⟩
theorem kp_good {b c p dp p' : Nat} {s : ByteArray} {w w' : World} {r : R Bs} {k : Bs} (hr : Hid (r = .inl (k, rst s p'))) (hf : Fr w.heap.size b c w w') (hp : p ≤ p') (h : Rd w' b c s p' dp) : KPost b c s p dp w r (.returned (.tuple #[.string (str k), .int .i64 0])) w' := by
  unfold KPost; rw [hr.out]; exact ⟨hf, ⟨p', hp, rfl, h⟩, rfl⟩

theorem head58 (l : Bs) : (hasPrefix l [58] = true ∧ ∃ t, l = 58 :: t) ∨ (hasPrefix l [58] = false ∧ ∀ t, l ≠ 58 :: t) := by
  cases l with
  | nil => exact .inr ⟨rfl, fun t h => by cases h⟩
  | cons c t =>
    by_cases h : c = 58
    · exact .inl ⟨by rw [h]; simp [hasPrefix, List.isPrefixOf], t, by rw [h]⟩
    · exact .inr ⟨by simp [hasPrefix, List.isPrefixOf]; exact fun e => h e.symm, fun u e => h (by injection e)⟩

set_option maxHeartbeats 4000000 in
theorem key_rd {α : Type} (b c : Nat) (s : ByteArray) (p dp : Nat) (a : Option Addr) (n cp : Nat) (acc : List (Bs × α)) (Q : Nat → Prop) (w : World) (h : Rd w b c s p dp) (hs : s.size ≤ 100000)
    (hk : QRow ET w Q a n cp (acc.map Prod.fst)) (hQ : ∀ k, Q k → k ≠ b ∧ k ≠ c) (hn : n ≤ 100000) :
    Calls Tryz.prog 92 #[.pointer (some ⟨b, 0, none⟩), .slice a n cp] w (KPost b c s p dp w (keyM acc (rst s p))) := by
  have HR := hide h
  have hc := h.box.c
  have HK := hide hk
  have CB := hide (blanks_rd b c s p dp w h hs)
  clear h hk
  go_enter Tryz.func92, Tryz.ntmps92
  go_wp2_with fail
  refine CB.out.mono ?_
  rintro e w1 ⟨t0, p1, rfl, hp1, hsk, R1, K1⟩
  have HSK := hide hsk
  have HR1 := hide R1
  have F1 := hide (Fr.ofKept (b := b) K1 (Nat.le_refl _))
  have HK1 := hide (HK.out.fr hQ F1.out)
  clear hsk R1 K1 hc CB
  have CR := hide (rest_rd b c s p1 dp w1 HR1.out hs)
  go_wp2_with fail
  refine CR.out.mono ?_
  rintro e w2 ⟨rfl, m, rfl⟩
  obtain ⟨uq, HU⟩ : ∃ uq, Hid (unquote (s.extract p1 s.size).data.toList = uq) := ⟨_, rfl⟩
  have HU2 : Hid (unquote (rst s p1) = uq) := by have := HU.out; rw [W.rest_list] at this; exact this
  clear CR
  go_wp2_with fail
  refine (unquote_any (s.extract p1 s.size) _ (by rw [← len_eq, W.rest_list, List.length_drop, len_eq]; omega) uq HU).mono ?_
  rintro e w3 ⟨rfl, b3⟩
  have B3 : Below w1.heap.size w1 w3 := (belDrewN _ m).trans (b3.mono (Nat.le_refl _))
  have HR3 := hide (HR1.out.below B3)
  have F3 := hide (F1.out.trans (Fr.ofBelow (B3.mono F1.out.size)))
  have HK3 := hide (HK1.out.fr hQ (Fr.ofBelow B3))
  clear b3 B3 F1 HK1 HR1
  cases uq with
  | none =>
    have HQ : Hid (keyM acc (rst s p) = .inr (1, rst s p1)) := by show _ = _; unfold keyM; rw [HSK.out, HU2.out]
    unfold unqV
    go_wp2_with fail
    go_ret2
    exact kp_bad HQ (.inl rfl) F3.out HR3.out
  | some y =>
    obtain ⟨o, m2⟩ := y
    have hm := unquote_le _ _ _ HU2.out
    rw [rst_len] at hm
    have CC := hide (contains_any a n cp _ (str o) w3 HK3.out.row hn)
    rw [str_list] at CC
    unfold unqV
    go_wp2_with fail
    refine CC.out.mono ?_
    rintro e w4 ⟨rfl, hw⟩
    rw [hw]
    clear hw w4 CC
    cases hcon : (acc.map Prod.fst).contains o with
    | true =>
      have HQ : Hid (keyM acc (rst s p) = .inr (4, rst s p1)) := by show _ = _; unfold keyM; rw [HSK.out, HU2.out]; simp only [hcon, if_true]
      go_wp2_with fail
      go_ret2
      exact kp_bad HQ (.inr rfl) F3.out HR3.out
    | false =>
      have HQ0 : Hid (keyM acc (rst s p) = match skip (rst s (p1 + m2)) with | [] => .inr (1, []) | c :: t => if c = 58 then .inl (o, t) else .inr (1, c :: t)) := by
        show _ = _
        unfold keyM
        rw [HSK.out, HU2.out]
        simp only [hcon]
        rw [rst_drop]
        rfl
      have CP := hide (pass_rd b c s p1 dp m2 w3 HR3.out hs hm)
      clear hcon
      go_wp2_with fail
      refine CP.out.mono ?_
      rintro e w5 ⟨rfl, R5, O5⟩
      have HR5 := hide R5
      have F5 := hide (F3.out.trans (Fr.ofOth (b := b) O5))
      have hc := R5.box.c
      have CB := hide (blanks_rd b c s (p1 + m2) dp w5 R5 hs)
      clear R5 O5 CP F3 HR3 HK3
      go_wp2_with fail
      refine CB.out.mono ?_
      rintro e w6 ⟨t1, p2, rfl, hp2, hsk2, R6, K6⟩
      rw [hsk2] at HQ0
      have HR6 := hide R6
      have F6 := hide (F5.out.trans (Fr.ofKept (b := b) (K6) F5.out.size))
      have hc := R6.box.c
      have CT := hide (take_rd b c s p2 dp ⟨#[58]⟩ w6 R6 hs)
      clear hsk2 R6 K6 CB F5 HR5
      have e58 : (ByteArray.mk #[58]).data.toList = [58] := rfl
      rw [e58] at CT
      rcases head58 (rst s p2) with ⟨h1, t, ht⟩ | ⟨h1, ht⟩
      · have ht2 : rst s (p2 + 1) = t := by rw [← rst_drop, ht]; rfl
        have HQ : Hid (keyM acc (rst s p) = .inl (o, rst s (p2 + 1))) := by show _ = _; rw [HQ0.out, ht, ht2]; simp
        rw [h1] at CT
        clear ht ht2 h1 HQ0
        go_wp2_with fail
        refine CT.out.mono ?_
        rintro e w7 ⟨rfl, R7, O7⟩
        have HR7 := hide R7
        have F7 := hide (F6.out.trans (Fr.ofOth (b := b) O7))
        clear R7 O7
        go_wp2_with fail
        go_ret2
        exact kp_good HQ F7.out (by omega) HR7.out
      · have HQ : Hid (keyM acc (rst s p) = .inr (1, rst s p2)) := by
          show _ = _
          rw [HQ0.out]
          cases hl : rst s p2 with
          | nil => rfl
          | cons x t =>
            have : ¬ x = 58 := fun e => ht t (by rw [hl, e])
            simp only [if_neg this]
        rw [h1] at CT
        clear ht h1 HQ0
        go_wp2_with fail
        refine CT.out.mono ?_
        rintro e w7 ⟨rfl, R7, O7⟩
        have HR7 := hide R7
        have F7 := hide (F6.out.trans (Fr.ofOth (b := b) O7))
        clear R7 O7
        go_wp2_with fail
        go_ret2
        exact kp_bad HQ (.inl rfl) F7.out HR7.out

end Go.Proofs.YtnmmhihfnphjeaaGreatDoor.B
