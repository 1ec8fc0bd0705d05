/-
  Contracts of Number, the reference's Number and Digits.
  Contracts of numberRow, number.
-/
import Derived.Test.YtnmmhihfnphjeaaDoorG04
import Derived.Test.YtnmmhihfnphjeaaDoorG10
import Derived.Laws.RangeAny
import Derived.Laws.Runes
import Derived.WalkMore
import Derived.Deep.LoopGhost

namespace Go.Proofs.YtnmmhihfnphjeaaDoor.W
set_option linter.unusedVariables false
open Go.RowKit

theorem ret_num {a b : Int} {c d : Bool} (h : a = b) (k : c = d) : Ending.returned (.tuple #[.int .i64 a, .bool c]) = .returned (.tuple #[.int .i64 b, .bool d]) := by rw [h, k]

set_option maxHeartbeats 400000 in
theorem number_any (s : ByteArray) (w : World) (hs : s.size ≤ maxLen) :
    Calls Tryd.prog 77 #[.string s] w fun e w' => e = .returned (.tuple #[.int .i64 (Tx.numR s.data.toList), .bool (Tx.okNum s.data.toList)]) ∧ w' = w := by
  unfold maxLen at hs
  by_cases h1 : s.size < 1
  · have HF : Hid (Tx.okNum s.data.toList = false) := Tx.okNum_short s h1
    have hd : decide ((s.size : Int) < 1) = true := by simp; omega
    go_enter Tryd.func77, Tryd.ntmps77
    go_wp2
    go_ret2
    exact ⟨ret_num (by simp [Tx.numR, HF.out]) HF.out.symm, rfl⟩
  have d1 : decide ((s.size : Int) < 1) = false := by simp; omega
  by_cases h9 : 9 < s.size
  · have HF : Hid (Tx.okNum s.data.toList = false) := Tx.okNum_long s h9
    have hd : decide ((9 : Int) < s.size) = true := by simp; omega
    go_enter Tryd.func77, Tryd.ntmps77
    go_wp2
    go_ret2
    exact ⟨ret_num (by simp [Tx.numR, HF.out]) HF.out.symm, rfl⟩
  have d9 : decide ((9 : Int) < s.size) = false := by simp; omega
  by_cases hz : 1 < s.size ∧ ((s[0]).toNat : Int) = 48
  · obtain ⟨hz1, hz2⟩ := hz
    have HF : Hid (Tx.okNum s.data.toList = false) := Tx.okNum_zero s hz1 hz2
    have dz : decide ((1 : Int) < s.size) = true := by simp; omega
    have dy : (((s[0]).toNat : Int) == 48) = true := by simpa using hz2
    clear hz2
    go_enter Tryd.func77, Tryd.ntmps77
    go_wp2
    go_ret2
    exact ⟨ret_num (by simp [Tx.numR, HF.out]) HF.out.symm, rfl⟩
  have HE : Hid (Tx.okNum s.data.toList = s.data.toList.all Tx.isDig) := Tx.okNum_else s (by omega) (by omega) (by
    by_cases h2 : s.size = 1
    · exact .inl h2
    · exact .inr (fun e => hz ⟨by omega, e⟩))
  have H9 : s.size ≤ 9 := by omega
  by_cases hq : 1 < s.size
  case' pos =>
    have dz : decide ((1 : Int) < s.size) = true := by simp; omega
    have dy : (((s[0]).toNat : Int) == 48) = false := by simp; intro e; exact hz ⟨hq, e⟩
    clear hz
  case' neg =>
    have dz : decide ((1 : Int) < s.size) = false := by simp; omega
    clear hz
  all_goals
    go_enter Tryd.func77, Tryd.ntmps77
    go_wp2
    go_loop [4, 26] (fun n i => ∃ k : Nat, k ≤ s.size ∧ i = .int .i64 k ∧ n = .int .i64 (Tx.numVal (s.data.toList.take k)) ∧ Hid ((s.data.toList.take k).all Tx.isDig = true)) (fun _ i => s.size - (RowKit.intOf i).toNat)
    case atStart => exact ⟨0, Nat.zero_le _, rfl, rfl, rfl⟩
    case round =>
      obtain ⟨k, hk, rfl, rfl, hp⟩ := hrel
      obtain ⟨b1, b2⟩ := Tx.numVal_bd9 s k hk (by omega) hp.out
      by_cases hlt : k < s.size
      · have HV : Hid (Tx.numVal (s.data.toList.take (k + 1)) = Tx.numVal (s.data.toList.take k) * 10 + (((s[k]).toNat : Int) - 48)) := Tx.numVal_take s k hlt
        by_cases hg1 : ((s[k]).toNat : Int) < 48
        · have HF : Hid (s.data.toList.all Tx.isDig = false) := Tx.notDig_false s k hlt (by simp [Tx.isDig]; omega)
          go_wp2
          go_ret2
          exact ⟨ret_num (by simp [Tx.numR, HE.out, HF.out]) (by rw [HE.out, HF.out]), rfl⟩
        have e1 : decide (((s[k]).toNat : Int) < 48) = false := by simp; omega
        by_cases hg2 : 57 < ((s[k]).toNat : Int)
        · have HF : Hid (s.data.toList.all Tx.isDig = false) := Tx.notDig_false s k hlt (by simp [Tx.isDig]; omega)
          go_wp2
          go_ret2
          exact ⟨ret_num (by simp [Tx.numR, HE.out, HF.out]) (by rw [HE.out, HF.out]), rfl⟩
        have e2 : decide (57 < ((s[k]).toNat : Int)) = false := by simp; omega
        have HT : Hid ((s.data.toList.take (k + 1)).all Tx.isDig = true) := by
          show List.all _ _ = true
          rw [Tx.digs_take s k hlt, hp.out]; simp [Tx.isDig]; omega
        go_wp2
        go_round
        case rel => exact ⟨k + 1, by omega, by go_num, by rw [HV.out]; try go_num, HT⟩
        case measure => simp [RowKit.intOf]; omega
      · have HT : Hid (s.data.toList.all Tx.isDig = true) := by rw [← Tx.take_all s k (by omega)]; exact hp
        have HN : Hid (Tx.numVal (s.data.toList.take k) = Tx.numVal s.data.toList) := by rw [Tx.take_all s k (by omega)]; rfl
        go_wp2
        go_ret2
        exact ⟨ret_num (by simp [Tx.numR, HE.out, HT.out, HN.out]) (by rw [HE.out, HT.out]), rfl⟩

end Go.Proofs.YtnmmhihfnphjeaaDoor.W

namespace Go.Proofs.YtnmmhihfnphjeaaDoor.B
set_option linter.unusedSimpArgs false
set_option linter.unusedVariables false
open Go.RowKit Go.Vr Go.Sort Go.Tx Go.Lib
open Go.Br hiding Bs
open Go.Proofs.YtnmmhihfnphjeaaDoor.W (IsCur Oth Kept number_any)
attribute [local go_sem] setCellDrewN allocDrewN

/-- The iterator moved on. -/
def iterTo (w : World) (N : Nat) (s : ByteArray) (p : Nat) : World := { w with heap := w.heap.setIfInBounds N (.stringIter s p) }
theorem iterTo_size (w : World) (N : Nat) (s : ByteArray) (p : Nat) : (iterTo w N s p).heap.size = w.heap.size := by simp [iterTo]
theorem iterTo_at (w : World) (N : Nat) (s : ByteArray) (p : Nat) (h : N < w.heap.size) : (iterTo w N s p).heap[N]? = some (.stringIter s p) := by simp [iterTo, h]
theorem run_next_at (P : Program) (w : World) (N : Nat) (s : ByteArray) (pos : Nat) (ty : TypeId) (hN : w.heap[N]? = some (.stringIter s pos)) (h : pos < s.size) :
    (Instr.next (.pointer (some ⟨N, 0, none⟩)) true ty).run P w = .ok (.tuple #[.bool true, .int .i64 pos, .int .i32 (Utf8.decode s pos).1]) (iterTo w N s (pos + (Utf8.decode s pos).2)) := by
  simp only [Instr.next, getObj, setObj, Sem.run_bind, Sem.run, hN, Result.andThen, h, if_true]
  simp [goInt, Sem.run, iterTo, hN]
theorem run_next_stop (P : Program) (w : World) (N : Nat) (s : ByteArray) (pos : Nat) (ty : TypeId) (hN : w.heap[N]? = some (.stringIter s pos)) (h : ¬ pos < s.size) :
    (Instr.next (.pointer (some ⟨N, 0, none⟩)) true ty).run P w = .ok (.tuple #[.bool false]) w := by
  simp [Instr.next, getObj, Sem.run, hN, h]
theorem iterTo_below {w W : World} {s : ByteArray} {p : Nat} (h : Below w.heap.size w W) : Below w.heap.size w (iterTo W w.heap.size s p) := by
  obtain ⟨h1, h2, h3, h4, h5⟩ := h
  refine ⟨h1, h2, h3, by rw [iterTo_size]; exact h4, fun k hk => ?_⟩
  rw [← h5 k hk]
  have : ¬ w.heap.size = k := by omega
  simp [iterTo, Array.getElem?_setIfInBounds, this]

/-- The row so far. -/
def RowTo (s : ByteArray) (i : Nat) : Prop := ∀ j c, j < i → s.data.toList[j]? = some c → rowC j c = true
theorem RowTo.succ {s : ByteArray} {i : Nat} {c : UInt8} (h : RowTo s i) (hc : s.data.toList[i]? = some c) (h2 : rowC i c = true) : RowTo s (i + 1) := fun j d hj e => by
  by_cases e2 : j = i
  · subst e2
    rw [hc] at e
    rw [← Option.some.inj e]; exact h2
  · exact h j d (by omega) e
theorem RowTo.stop {s : ByteArray} {i : Nat} (h : RowTo s i) (hi : i ≤ s.size) (hs : ∀ c, s.data.toList[i]? = some c → rowC i c = false) : str (rowM s.data.toList) = s.extract 0 i := by
  rw [row_stop _ i (by rw [len_eq]; exact hi) h hs]
  exact ba_ext (by rw [str_list]; simp)

set_option maxHeartbeats 4000000 in
set_option maxRecDepth 1000000 in
theorem numberRow_any (s : ByteArray) (w : World) (hs : s.size ≤ 100000) :
    Calls Tryd.prog 75 #[.string s] w fun e w' => e = .returned (.string (str (rowM s.data.toList))) ∧ Below w.heap.size w w' := by
  go_enter Tryd.func75, Tryd.ntmps75
  go_wp2_with fail
  go_loopg [9, 10] s.size (fun g _ _ wx => ∃ i : Nat, s.size - i ≤ g ∧ i ≤ s.size ∧ Hid (wx.heap[w.heap.size]? = some (.stringIter s i)) ∧ Hid (RowTo s i) ∧ Hid (Below w.heap.size w wx))
  case atStart => exact ⟨0, by omega, by omega, hide (World.iter_heap w s 0), hide (fun j c hj => absurd hj (by omega)), hide ((Below.refl _ _).alloc (Nat.le_refl _) _)⟩
  case round =>
    obtain ⟨i, hig, hi, HI, HN, HB⟩ := hrel
    have i0 : (0 : Int) ≤ (i : Int) := by omega
    by_cases hlt : i < s.size
    · cases gk with
      | zero => omega
      | succ g =>
        have i1 : (i : Int) ≤ (s.size : Int) := by omega
        have hNs : w.heap.size < wr.heap.size := (Array.getElem?_eq_some_iff.1 HI.out).1
        have hxl : s.data.toList[i]? = some s[i] := Lib.data_getElem? s i hlt
        have hnx0 := fun ty => run_next_at Tryd.prog wr w.heap.size s i ty HI.out hlt
        by_cases ha : (s[i]).toNat < 128
        · rw [decode_ascii s i hlt ha] at hnx0
          have HI2 := hide (iterTo_at wr w.heap.size s (i + 1) hNs)
          have HB2 := hide (iterTo_below (s := s) (p := i + 1) HB.out)
          simp only at hnx0
          generalize hx : s[i] = x at *
          generalize hW2 : iterTo wr w.heap.size s (i + 1) = W2 at *
          have HX := hide hxl
          have HG := hide (And.intro hig hlt)
          have hn45 : ¬ (x.toNat : Int) = 45 → ¬ x = 45 := fun h e => h (by rw [e]; rfl)
          clear hx hW2 hxl ha hNs hig
          rcases (show ((x.toNat : Int) = 45 ∧ i = 0) ∨ ((x.toNat : Int) = 45 ∧ 0 < i) ∨ (48 ≤ (x.toNat : Int) ∧ (x.toNat : Int) ≤ 57) ∨ ((x.toNat : Int) < 48 ∧ ¬ (x.toNat : Int) = 45) ∨ 57 < (x.toNat : Int) by omega) with ⟨h1, h2⟩ | ⟨h1, h2⟩ | ⟨h1, h2⟩ | ⟨h1, h2⟩ | h1
          · have HR := hide (HN.out.succ HX.out (by rw [h2]; have : x = 45 := UInt8.toNat_inj.1 (by show x.toNat = 45; omega); rw [this]; rfl))
            have d1 : ((x.toNat : Int) == 45) = true := by simpa using h1
            have d2 : ((i : Int) == 0) = true := by simpa using h2
            have d3 : decide ((48 : Int) ≤ (x.toNat : Int)) = false := decide_eq_false (by omega)
            clear h1 h2 hn45
            go_wp2_with fail
            go_roundg g
            case measure => have := HG.out; omega
            case rel => exact ⟨i + 1, by have := HG.out; omega, by have := HG.out.2; omega, HI2, HR, HB2⟩
          · have HR := hide (HN.out.stop hi (fun c hc => by
              obtain rfl : x = c := by rw [HX.out] at hc; exact Option.some.inj hc
              have : x = 45 := UInt8.toNat_inj.1 (by show x.toNat = 45; omega)
              unfold rowC
              rw [this, show (i == 0) = false by simp; omega]; rfl))
            have d1 : ((x.toNat : Int) == 45) = true := by simpa using h1
            have d2 : ((i : Int) == 0) = false := by simp; omega
            have d3 : decide ((48 : Int) ≤ (x.toNat : Int)) = false := decide_eq_false (by omega)
            clear h1 h2 hn45
            go_wp2_with fail
            go_ret
            exact ⟨ret_str HR.out.symm, HB2.out⟩
          · have HR := hide (HN.out.succ HX.out (by unfold rowC isDig; rw [decide_eq_true h1, decide_eq_true h2]; simp))
            have d1 : ((x.toNat : Int) == 45) = false := by simp; omega
            have d3 : decide ((48 : Int) ≤ (x.toNat : Int)) = true := decide_eq_true h1
            have d4 : decide ((x.toNat : Int) ≤ 57) = true := decide_eq_true h2
            clear h1 h2 hn45
            go_wp2_with fail
            go_roundg g
            case measure => have := HG.out; omega
            case rel => exact ⟨i + 1, by have := HG.out; omega, by have := HG.out.2; omega, HI2, HR, HB2⟩
          · have HR := hide (HN.out.stop hi (fun c hc => by
              obtain rfl : x = c := by rw [HX.out] at hc; exact Option.some.inj hc
              unfold rowC isDig
              rw [show (x == 45) = false by simpa using hn45 h2, decide_eq_false (show ¬ 48 ≤ (x.toNat : Int) by omega)]; rfl))
            have d1 : ((x.toNat : Int) == 45) = false := by simpa using h2
            have d3 : decide ((48 : Int) ≤ (x.toNat : Int)) = false := decide_eq_false (by omega)
            clear h1 h2 hn45
            go_wp2_with fail
            go_ret
            exact ⟨ret_str HR.out.symm, HB2.out⟩
          · have HR := hide (HN.out.stop hi (fun c hc => by
              obtain rfl : x = c := by rw [HX.out] at hc; exact Option.some.inj hc
              unfold rowC isDig
              rw [show (x == 45) = false by simpa using hn45 (by omega), decide_eq_false (show ¬ (x.toNat : Int) ≤ 57 by omega)]; simp))
            have d1 : ((x.toNat : Int) == 45) = false := by simp; omega
            have d3 : decide ((48 : Int) ≤ (x.toNat : Int)) = true := decide_eq_true (by omega)
            have d4 : decide ((x.toNat : Int) ≤ 57) = false := decide_eq_false (by omega)
            clear h1 hn45
            go_wp2_with fail
            go_ret
            exact ⟨ret_str HR.out.symm, HB2.out⟩
        · have hd := decode_high s i hlt (by omega)
          have HR := hide (HN.out.stop hi (fun c hc => by
            obtain rfl : s[i] = c := by rw [hxl] at hc; exact Option.some.inj hc
            have h1 : ¬ ((s[i]).toNat : Int) ≤ 57 := by omega
            unfold rowC isDig
            rw [show (s[i] == 45) = false by rw [beq_eq_false_iff_ne]; intro e; rw [e] at ha; exact ha (by decide), decide_eq_false h1]; simp))
          generalize hD : Utf8.decode s i = D at *
          obtain ⟨r, n⟩ := D
          simp only at hnx0 hd
          have HB2 := hide (iterTo_below (s := s) (p := i + n) HB.out)
          generalize hW2 : iterTo wr w.heap.size s (i + n) = W2 at *
          have d1 : ((r : Int) == 45) = false := by simp; omega
          have d3 : decide ((48 : Int) ≤ (r : Int)) = true := decide_eq_true (by omega)
          have d4 : decide ((r : Int) ≤ 57) = false := decide_eq_false (by omega)
          clear hD hW2 hxl ha hd hig hNs
          go_wp2_with fail
          go_ret
          exact ⟨ret_str HR.out.symm, HB2.out⟩
    · obtain rfl : i = s.size := by omega
      have hnx := fun ty => run_next_stop Tryd.prog wr w.heap.size s s.size ty HI.out hlt
      have HR := hide (HN.out.stop (Nat.le_refl _) (fun c hc => by
        have := (List.getElem?_eq_some_iff.1 hc).1
        rw [len_eq] at this
        omega))
      clear hig hi hlt
      go_wp2_with fail
      go_ret
      exact ⟨ret_str (by rw [HR.out]; exact ba_ext (by simp)), HB.out⟩

/-- How number ends. -/
def NPost (b c : Nat) (s : ByteArray) (p dp : Nat) (w : World) (r : R Int) (e : Ending) (w' : World) : Prop := Fr w.heap.size b c w w' ∧ match r with
  | .inl (t, q) => Good b c s p dp w' q ∧ e = .returned (.tuple #[(leafSV (.inr (.inl t))).val, .int .i64 0])
  | .inr (n, q) => n = 1 ∧ Bad b c s w' q ∧ e = .returned (.tuple #[SV.zero.val, .int .i64 1])

set_option maxHeartbeats 4000000 in
theorem number_rd (b c : Nat) (s : ByteArray) (p dp : Nat) (w : World) (h : Rd w b c s p dp) (hs : s.size ≤ 100000) :
    Calls Tryd.prog 61 #[.pointer (some ⟨b, 0, none⟩)] w (NPost b c s p dp w (numM (rst s p))) := by
  obtain ⟨hbl, hcl⟩ := h.lt
  have HR := hide h
  clear h
  have H0 := hide (show Below w.heap.size w (w.alloc (.cells #[.int .i64 0, .int .i64 0, .string ⟨#[]⟩, .slice none 0 0, .slice none 0 0] 39)) from (Below.refl _ _).alloc (Nat.le_refl _) _)
  have hX0 := hide (Box.new w #[.int .i64 0, .int .i64 0, .string ⟨#[]⟩, .slice none 0 0, .slice none 0 0] 39)
  go_enter Tryd.func61, Tryd.ntmps61
  go_wp2_with fail
  refine (rest_rd b c s p dp _ (HR.out.below H0.out) hs).mono ?_
  rintro e w1 ⟨rfl, n, rfl⟩
  have CN := hide (numberRow_any (s.extract p s.size) ((w.alloc (.cells #[.int .i64 0, .int .i64 0, .string ⟨#[]⟩, .slice none 0 0, .slice none 0 0] 39)).drewN n) (by rw [← len_eq, W.rest_list, List.length_drop, len_eq]; omega))
  rw [W.rest_list] at CN
  obtain ⟨i, hi, hri⟩ := rowM_pre (rst s p)
  rw [rst_len] at hi
  have hrs : (str (rowM (rst s p))).size = i := by rw [str_size, hri, List.length_take, rst_len]; omega
  have HRI := hide hri
  have HNM := hide (numM_eq (rst s p))
  go_wp2_with fail
  refine CN.out.mono ?_
  rintro e w2 ⟨rfl, b2⟩
  have B2 := H0.out.trans (((belDrewN _ n).trans (b2.mono (Nat.le_refl _))).mono H0.out.size)
  have R2 := hide (HR.out.below B2)
  have X2 := hide ((hX0.out.drewN n).later b2)
  have HB2 := hide B2
  have hrl : Hid ((rowM (rst s p)).length = i) := by show _ = _; rw [← str_size]; exact hrs
  clear b2 B2 hX0 H0 CN hri
  have CP := hide (fun W => cutPrefix_any (str (rowM (rst s p))) ⟨#[45]⟩ W)
  rw [str_list] at CP
  have e45 : (ByteArray.mk #[45]).data.toList = [45] := rfl
  rw [e45] at CP
  have CN := hide (fun W => number_any (str (trimPrefix (rowM (rst s p)) [45])) W (by
    rw [str_size]
    have : (trimPrefix (rowM (rst s p)) [45]).length ≤ (rowM (rst s p)).length := by unfold trimPrefix; split <;> simp
    have := hrl.out
    unfold maxLen
    omega))
  rw [str_list] at CN
  have hnb : okNum (trimPrefix (rowM (rst s p)) [45]) = true → 0 ≤ numVal (trimPrefix (rowM (rst s p)) [45]) ∧ numVal (trimPrefix (rowM (rst s p)) [45]) ≤ 999999999 := fun h => by
    have h2 := Vr.okNum_dec _ h
    refine ⟨h2.2, ?_⟩
    unfold okNum at h
    simp only [Bool.and_eq_true, decide_eq_true_eq] at h
    have := (numVal_bd9 (str (trimPrefix (rowM (rst s p)) [45])) (trimPrefix (rowM (rst s p)) [45]).length (by rw [str_size]; exact Nat.le_refl _) h.1.1.2 (by rw [str_list, List.take_length]; exact h.2)).2
    rw [str_list, List.take_length] at this
    exact this
  have HNB := hide hnb
  clear hnb
  unfold numR at CN
  generalize trimPrefix (rowM (rst s p)) [45] = dg at *
  generalize hasPrefix (rowM (rst s p)) [45] = bl at *
  have xc := X2.out.c
  have xf := X2.out.f
  go_wp2_with fail
  refine (CP.out _).mono ?_
  rintro e w3 ⟨rfl, hw⟩
  rw [hw]
  clear hw w3
  go_wp2_with fail
  refine (CN.out _).mono ?_
  rintro e w3 ⟨rfl, hw⟩
  rw [hw]
  clear hw w3 CP CN
  cases hok : okNum dg with
  | false =>
    rw [hok] at HNM
    have hq : numM (rst s p) = .inr (1, rst s p) := HNM.out
    have HQ := hide hq
    clear hq hok HNM HNB
    go_wp2_with fail
    obtain ⟨xs, xb⟩ := box_set5 X2.out (.int .i64 0) (.int .i64 0) (.string ⟨#[]⟩) (.slice none 0 0) (.slice none 0 0)
    have xd := xs.c
    have B3 := HB2.out.trans (xb _ (Nat.le_refl _))
    exact bodyPost_ret (v := .tuple #[.agg #[.int .i64 0, .int .i64 0, .string ⟨#[]⟩, .slice none 0 0, .slice none 0 0], .int .i64 1]) (by simp [results, Tryd.results61, go_sem, *]) rfl (by unfold NPost; rw [HQ.out]; exact ⟨Fr.ofBelow B3, rfl, ⟨p, dp, rfl, HR.out.below B3⟩, rfl⟩)
  | true =>
    have hnb := HNB.out hok
    rw [hok] at HNM
    rw [hrl.out, rst_drop] at HNM
    generalize numVal dg = nv at *
    obtain ⟨n0, n9⟩ := hnb
    generalize str (rowM (rst s p)) = RW at *
    have CPS := hide (fun W hW => pass_rd b c s p dp i W hW hs hi)
    have END : ∀ (v : Int) (w3 : World) (W3 : World), Hid (numM (rst s p) = .inl (v, rst s (p + i))) → Hid (Rd w3 b c s (p + i) dp) → Hid (Oth c w2 w3) → Hid (Below w.heap.size w3 W3) → NPost b c s p dp w (numM (rst s p)) (.returned (.tuple #[(leafSV (.inr (.inl v))).val, .int .i64 0])) W3 := by
      intro v w3 W3 hq hr ho hb
      unfold NPost
      rw [hq.out]
      exact ⟨((Fr.ofBelow HB2.out).trans (Fr.ofOth ho.out)).trans (Fr.ofBelow hb.out), ⟨p + i, by omega, rfl, hr.out.under hb.out hbl hcl⟩, rfl⟩
    cases bl with
    | false =>
      have HQ : Hid (numM (rst s p) = .inl (nv, rst s (p + i))) := HNM.out
      clear HNM HNB hok hrl HRI
      go_wp2_with fail
      refine (CPS.out _ R2.out).mono ?_
      rintro e w3 ⟨rfl, R3, O3⟩
      have X3 := X2.out.of_block (O3.block w.heap.size (by omega))
      have xc := X3.c
      have xf := X3.f
      have HR3 := hide R3
      have HO3 := hide O3
      have HE := hide END
      clear R3 O3 END CPS
      go_wp2_with fail
      obtain ⟨xs, xb⟩ := box_set5 X3 (.int .i64 2) (.int .i64 nv) (.string ⟨#[]⟩) (.slice none 0 0) (.slice none 0 0)
      have xd := xs.c
      exact bodyPost_ret (v := .tuple #[.agg #[.int .i64 2, .int .i64 nv, .string ⟨#[]⟩, .slice none 0 0, .slice none 0 0], .int .i64 0]) (by simp [results, Tryd.results61, go_sem, *]) rfl (HE.out nv w3 _ HQ HR3 HO3 (hide (xb _ (Nat.le_refl _))))
    | true =>
      by_cases hz : nv = 0
      · have HQ : Hid (numM (rst s p) = .inr (1, rst s p)) := by have := HNM.out; rw [hz] at this; exact this
        have dz : (nv == 0) = true := by simpa using hz
        clear HNM HNB hok hrl HRI CPS END
        go_wp2_with fail
        obtain ⟨xs, xb⟩ := box_set5 X2.out (.int .i64 0) (.int .i64 0) (.string ⟨#[]⟩) (.slice none 0 0) (.slice none 0 0)
        have xd := xs.c
        have B3 := HB2.out.trans (xb _ (Nat.le_refl _))
        exact bodyPost_ret (v := .tuple #[.agg #[.int .i64 0, .int .i64 0, .string ⟨#[]⟩, .slice none 0 0, .slice none 0 0], .int .i64 1]) (by simp [results, Tryd.results61, go_sem, *]) rfl (by unfold NPost; rw [HQ.out]; exact ⟨Fr.ofBelow B3, rfl, ⟨p, dp, rfl, HR.out.below B3⟩, rfl⟩)
      · have HQ : Hid (numM (rst s p) = .inl (-nv, rst s (p + i))) := by
          have := HNM.out
          rw [show (nv == 0) = false by simpa using hz] at this
          exact this
        have dz : (nv == 0) = false := by simpa using hz
        clear HNM HNB hok hrl HRI hz
        go_wp2_with fail
        refine (CPS.out _ R2.out).mono ?_
        rintro e w3 ⟨rfl, R3, O3⟩
        have X3 := X2.out.of_block (O3.block w.heap.size (by omega))
        have xc := X3.c
        have xf := X3.f
        have HR3 := hide R3
        have HO3 := hide O3
        have HE := hide END
        clear R3 O3 END CPS
        go_wp2_with fail
        obtain ⟨xs, xb⟩ := box_set5 X3 (.int .i64 2) (.int .i64 (-nv)) (.string ⟨#[]⟩) (.slice none 0 0) (.slice none 0 0)
        have xd := xs.c
        exact bodyPost_ret (v := .tuple #[.agg #[.int .i64 2, .int .i64 (-nv), .string ⟨#[]⟩, .slice none 0 0, .slice none 0 0], .int .i64 0]) (by simp [results, Tryd.results61, go_sem, *]) rfl (HE.out (-nv) w3 _ HQ HR3 HO3 (hide (xb _ (Nat.le_refl _))))

end Go.Proofs.YtnmmhihfnphjeaaDoor.B
