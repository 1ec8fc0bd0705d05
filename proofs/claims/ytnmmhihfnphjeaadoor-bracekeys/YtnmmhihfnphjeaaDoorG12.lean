/-
  Contracts of slices.Index, slices.Contains at texts; of the reader's key.
  The items of a list, of a map: what the reader's closures do.
-/
import Derived.Test.YtnmmhihfnphjeaaDoorG11
import Derived.Deep.RegionWith

namespace Go.Proofs.YtnmmhihfnphjeaaDoor.B
set_option linter.unusedSimpArgs false
set_option linter.unusedVariables false
open Go.RowKit Go.Vr Go.Sort Go.Tx Go.Lib
open Go.Br hiding Bs
open Go.Proofs.YtnmmhihfnphjeaaDoor.W (IsCur Oth Kept take_any while_any unquote_any unqV inSet)
attribute [local go_sem] setCellDrewN allocDrewN

theorem ET_at {w : World} {b off n : Nat} {l : List Bs} (h : ERow ET w (some ⟨b, off, none⟩) n l) (j : Nat) (x : Bs) (hj : l[j]? = some x) : w.cell? ⟨b, off + j, none⟩ = some (.string (str x)) := by
  have := h.at_ j x hj 0 (.string (str x)) rfl
  simpa [ET] using this

def idxV : Option Nat → Int
  | some j => j
  | none => -1
theorem idx_some {l : List Bs} {x : Bs} {j : Nat} (hx : l[j]? = some x) (hn : (l.take j).contains x = false) : l.findIdx? (fun y => y == x) = some j := by
  obtain ⟨hj, e⟩ := List.getElem?_eq_some_iff.1 hx
  rw [List.findIdx?_eq_some_iff_getElem]
  refine ⟨hj, by rw [e]; simp, fun i hi => ?_⟩
  intro h
  have h2 : l[i] = x := by simpa using h
  have : x ∈ l.take j := by
    rw [← h2, List.mem_take_iff_getElem]
    exact ⟨i, by omega, rfl⟩
  rw [List.contains_iff_mem.2 this] at hn
  cases hn
theorem idx_none {l : List Bs} {x : Bs} (hn : l.contains x = false) : l.findIdx? (fun y => y == x) = none := by
  rw [List.findIdx?_eq_none_iff]
  intro y hy
  rw [beq_eq_false_iff_ne]
  intro e
  rw [e] at hy
  rw [List.contains_iff_mem.2 hy] at hn
  cases hn
theorem idx_has (l : List Bs) (x : Bs) : decide ((0 : Int) ≤ idxV (l.findIdx? (fun y => y == x))) = l.contains x := by
  cases h : l.contains x with
  | false => rw [idx_none h]; rfl
  | true =>
    cases h2 : l.findIdx? (fun y => y == x) with
    | none =>
      rw [List.findIdx?_eq_none_iff] at h2
      rw [List.contains_iff_mem] at h
      have := h2 x h
      simp at this
    | some j => unfold idxV; simp

set_option maxHeartbeats 2000000 in
set_option maxRecDepth 100000 in
theorem index_any (a : Option Addr) (n c : Nat) (l : List Bs) (x : ByteArray) (w : World) (h : ERow ET w a n l) (hn : n ≤ 100000) :
    Calls Tryd.prog 50 #[.slice a n c, .string x] w fun e w' => e = .returned (.int .i64 (idxV (l.findIdx? (fun y => y == x.data.toList)))) ∧ w' = w := by
  have HR := hide h
  have hl := h.n
  clear h
  go_enter Tryd.func50, Tryd.ntmps50
  go_wp2_with fail
  go_loop [8] (fun i => ∃ k : Nat, k ≤ n ∧ i = .int .i64 k ∧ Hid ((l.take k).contains x.data.toList = false)) (fun i => n - (RowKit.intOf i).toNat)
  case atStart => exact ⟨0, by omega, rfl, hide (by simp)⟩
  case round =>
    obtain ⟨k, hk, rfl, HN⟩ := hrel
    by_cases hlt : k < n
    · obtain ⟨b, off, rfl⟩ := HR.out.spot (by omega)
      have hlk : k < l.length := by omega
      have hc := ET_at HR.out k l[k] (List.getElem?_eq_getElem hlk)
      have hx0 : l[k]? = some l[k] := List.getElem?_eq_getElem hlk
      have HX := hide hx0
      have HT : Hid (l.take (k + 1) = l.take k ++ [l[k]]) := by show _ = _; rw [List.take_succ_eq_append_getElem hlk]
      have i1 : (0 : Int) ≤ (k : Int) := by omega
      have i2 : (k : Int) < (n : Int) := by omega
      clear hx0
      generalize l[k] = y at *
      have hy : (x.toList == (str y).toList) = (x.data.toList == y) := by rw [toList_data, toList_data, str_list]
      by_cases he : x.data.toList = y
      · have d1 : (x.toList == (str y).toList) = true := by rw [hy]; simpa using he
        have HE : Hid (l.findIdx? (fun z => z == x.data.toList) = some k) := by show _ = _; rw [he]; exact idx_some HX.out (by rw [← he]; exact HN.out)
        clear hy he hl hlk
        go_wp2_with fail
        go_ret
        exact ⟨ret_int (by rw [HE.out]; rfl), rfl⟩
      · have d1 : (x.toList == (str y).toList) = false := by rw [hy]; simpa using he
        have HN2 : Hid ((l.take (k + 1)).contains x.data.toList = false) := by
          show _ = _
          have hh := HN.out
          rw [HT.out]
          simp at hh ⊢
          exact ⟨hh, he⟩
        clear hy he hl hlk
        go_wp2_with fail
        go_round
        case rel => exact ⟨k + 1, by omega, by go_num, HN2⟩
        case measure => simp [RowKit.intOf]; omega
    · have HE : Hid (l.findIdx? (fun z => z == x.data.toList) = none) := by
        show _ = _
        have := HN.out
        rw [List.take_of_length_le (by omega)] at this
        exact idx_none this
      clear hl
      go_wp2_with fail
      go_ret
      exact ⟨ret_int (by rw [HE.out]; rfl), rfl⟩

set_option maxHeartbeats 400000 in
theorem contains_any (a : Option Addr) (n c : Nat) (l : List Bs) (x : ByteArray) (w : World) (h : ERow ET w a n l) (hn : n ≤ 100000) :
    Calls Tryd.prog 91 #[.slice a n c, .string x] w fun e w' => e = .returned (.bool (l.contains x.data.toList)) ∧ w' = w := by
  have HI := hide (idx_has l x.data.toList)
  have CI := hide (index_any a n c l x w h hn)
  generalize idxV (l.findIdx? (fun y => y == x.data.toList)) = j at *
  clear h
  go_enter Tryd.func91, Tryd.ntmps91
  go_wp2_with fail
  refine CI.out.mono ?_
  rintro e w2 ⟨rfl, hw⟩
  rw [hw]
  clear hw w2
  go_wp2_with fail
  go_ret
  exact ⟨ret_bool HI.out, rfl⟩

theorem inSet_blk (c : UInt8) : inSet (ByteArray.mk #[32, 9, 10]).data.toList c.toNat = blk c := by
  have e : (ByteArray.mk #[32, 9, 10]).data.toList = [32, 9, 10] := rfl
  rw [e]
  unfold inSet blk
  have h : ∀ z : UInt8, (z.toNat == c.toNat) = (c == z) := fun z => by
    rw [Bool.eq_iff_iff, beq_iff_eq, beq_iff_eq]
    exact ⟨fun h => (UInt8.toNat_inj.1 h).symm, fun h => by rw [h]⟩
  simp only [List.any_cons, List.any_nil, Bool.or_false]
  rw [h, h, h, Bool.or_assoc]
theorem rst_skip (s : ByteArray) (p : Nat) : skip (rst s p) = rst s (p + ((rst s p).takeWhile blk).length) ∧ ((rst s p).takeWhile blk).length ≤ (rst s p).length := by
  have h := List.takeWhile_append_dropWhile (p := blk) (l := rst s p)
  refine ⟨?_, (List.takeWhile_prefix blk).length_le⟩
  unfold skip
  rw [← rst_drop]
  have h2 := List.drop_left (l₁ := (rst s p).takeWhile blk) (l₂ := (rst s p).dropWhile blk)
  rw [h] at h2
  exact h2.symm

/-- While over the blanks, in the reader's words. -/
theorem blanks_rd (b c : Nat) (s : ByteArray) (p dp : Nat) (w : World) (h : Rd w b c s p dp) (hs : s.size ≤ 100000) :
    Calls Tryd.prog 43 #[.pointer (some ⟨c, 0, none⟩), .string ⟨#[32, 9, 10]⟩] w fun e w' => ∃ t p', e = .returned (.string t) ∧ p ≤ p' ∧ skip (rst s p) = rst s p' ∧ Rd w' b c s p' dp ∧ Kept c w w' := by
  obtain ⟨h1, h2⟩ := rst_skip s p
  have hf : (fun c : UInt8 => inSet (ByteArray.mk #[32, 9, 10]).data.toList c.toNat) = blk := funext inSet_blk
  refine (while_any c s ⟨#[32, 9, 10]⟩ p w h.cur (by omega) (by decide)).mono ?_
  rintro e w' ⟨rfl, hc, hk⟩
  rw [hf] at hc
  exact ⟨_, _, rfl, Nat.le_add_right _ _, h1, h.kept hc hk, hk⟩
/-- Take of one sign, in the reader's words. -/
theorem take_rd (b c : Nat) (s : ByteArray) (p dp : Nat) (t : ByteArray) (w : World) (h : Rd w b c s p dp) (hs : s.size ≤ 100000) :
    Calls Tryd.prog 60 #[.pointer (some ⟨c, 0, none⟩), .string t] w fun e w' => e = .returned (.bool (hasPrefix (rst s p) t.data.toList)) ∧ Rd w' b c s (if hasPrefix (rst s p) t.data.toList = true then p + t.size else p) dp ∧ Oth c w w' := by
  refine (take_any c s t p w h.cur (by omega)).mono ?_
  rintro e w' ⟨rfl, hc, ho⟩
  exact ⟨rfl, h.oth hc ho, ho⟩

theorem QRow.fr {α : Type} {E : El α} {w w' : World} {Q : Nat → Prop} {a : Option Addr} {n cp b c : Nat} {l : List α} (h : QRow E w Q a n cp l) (hQ : ∀ k, Q k → k ≠ b ∧ k ≠ c) (hf : Fr w.heap.size b c w w') : QRow E w' Q a n cp l :=
  h.keep (fun k hq hk => hf.block k hk (hQ k hq).1 (hQ k hq).2) (fun _ h _ => h)
theorem VH.fr {w w' : World} {Q : Nat → Prop} {d b c : Nat} {x : Val d} {v : SV} (h : VH w Q d x v) (hQ : ∀ k, Q k → k ≠ b ∧ k ≠ c) (hf : Fr w.heap.size b c w w') : VH w' Q d x v :=
  h.keep (fun k hq hk => hf.block k hk (hQ k hq).1 (hQ k hq).2) (fun _ h _ => h)

/-- How key ends. -/
def KPost (b c : Nat) (s : ByteArray) (p dp : Nat) (w : World) (r : R Bs) (e : Ending) (w' : World) : Prop := Fr w.heap.size b c w w' ∧ match r with
  | .inl (k, q) => Good b c s p dp w' q ∧ e = .returned (.tuple #[.string (str k), .int .i64 0])
  | .inr (n, q) => (n = 1 ∨ n = 4) ∧ Bad b c s w' q ∧ e = .returned (.tuple #[.string ⟨#[]⟩, .int .i64 n])

theorem kp_bad {b c p dp p' dq n : Nat} {s : ByteArray} {w w' : World} {r : R Bs} (hr : Hid (r = .inr (n, rst s p'))) (hn : n = 1 ∨ n = 4) (hf : Fr w.heap.size b c w w') (h : Rd w' b c s p' dq) : KPost b c s p dp w r (.returned (.tuple #[.string ⟨#[]⟩, .int .i64 n])) w' := by
  unfold KPost; rw [hr.out]; exact ⟨hf, hn, ⟨p', dq, rfl, h⟩, rfl⟩
theorem kp_good {b c p dp p' : Nat} {s : ByteArray} {w w' : World} {r : R Bs} {k : Bs} (hr : Hid (r = .inl (k, rst s p'))) (hf : Fr w.heap.size b c w w') (hp : p ≤ p') (h : Rd w' b c s p' dp) : KPost b c s p dp w r (.returned (.tuple #[.string (str k), .int .i64 0])) w' := by
  unfold KPost; rw [hr.out]; exact ⟨hf, ⟨p', hp, rfl, h⟩, rfl⟩

theorem head58 (l : Bs) : (hasPrefix l [58] = true ∧ ∃ t, l = 58 :: t) ∨ (hasPrefix l [58] = false ∧ ∀ t, l ≠ 58 :: t) := by
  cases l with
  | nil => exact .inr ⟨rfl, fun t h => by cases h⟩
  | cons c t =>
    by_cases h : c = 58
    · exact .inl ⟨by rw [h]; simp [hasPrefix, List.isPrefixOf], t, by rw [h]⟩
    · exact .inr ⟨by simp [hasPrefix, List.isPrefixOf]; exact fun e => h e.symm, fun u e => h (by injection e)⟩

set_option maxHeartbeats 4000000 in
theorem key_rd {α : Type} (b c : Nat) (s : ByteArray) (p dp : Nat) (a : Option Addr) (n cp : Nat) (acc : List (Bs × α)) (Q : Nat → Prop) (w : World) (h : Rd w b c s p dp) (hs : s.size ≤ 100000)
    (hk : QRow ET w Q a n cp (acc.map Prod.fst)) (hQ : ∀ k, Q k → k ≠ b ∧ k ≠ c) (hn : n ≤ 100000) :
    Calls Tryd.prog 73 #[.pointer (some ⟨b, 0, none⟩), .slice a n cp] w (KPost b c s p dp w (keyM acc (rst s p))) := by
  have HR := hide h
  have hc := h.box.c
  have HK := hide hk
  have CB := hide (blanks_rd b c s p dp w h hs)
  clear h hk
  go_enter Tryd.func73, Tryd.ntmps73
  go_wp2_with fail
  refine CB.out.mono ?_
  rintro e w1 ⟨t0, p1, rfl, hp1, hsk, R1, K1⟩
  have HSK := hide hsk
  have HR1 := hide R1
  have F1 := hide (Fr.ofKept (b := b) K1 (Nat.le_refl _))
  have HK1 := hide (HK.out.fr hQ F1.out)
  clear hsk R1 K1 hc CB
  have CR := hide (rest_rd b c s p1 dp w1 HR1.out hs)
  go_wp2_with fail
  refine CR.out.mono ?_
  rintro e w2 ⟨rfl, m, rfl⟩
  obtain ⟨uq, HU⟩ : ∃ uq, Hid (unquote (s.extract p1 s.size).data.toList = uq) := ⟨_, rfl⟩
  have HU2 : Hid (unquote (rst s p1) = uq) := by have := HU.out; rw [W.rest_list] at this; exact this
  clear CR
  go_wp2_with fail
  refine (unquote_any (s.extract p1 s.size) _ (by rw [← len_eq, W.rest_list, List.length_drop, len_eq]; omega) uq HU).mono ?_
  rintro e w3 ⟨rfl, b3⟩
  have B3 : Below w1.heap.size w1 w3 := (belDrewN _ m).trans (b3.mono (Nat.le_refl _))
  have HR3 := hide (HR1.out.below B3)
  have F3 := hide (F1.out.trans (Fr.ofBelow (B3.mono F1.out.size)))
  have HK3 := hide (HK1.out.fr hQ (Fr.ofBelow B3))
  clear b3 B3 F1 HK1 HR1
  cases uq with
  | none =>
    have HQ : Hid (keyM acc (rst s p) = .inr (1, rst s p1)) := by show _ = _; unfold keyM; rw [HSK.out, HU2.out]
    unfold unqV
    go_wp2_with fail
    go_ret2
    exact kp_bad HQ (.inl rfl) F3.out HR3.out
  | some y =>
    obtain ⟨o, m2⟩ := y
    have hm := unquote_le _ _ _ HU2.out
    rw [rst_len] at hm
    have CC := hide (contains_any a n cp _ (str o) w3 HK3.out.row hn)
    rw [str_list] at CC
    unfold unqV
    go_wp2_with fail
    refine CC.out.mono ?_
    rintro e w4 ⟨rfl, hw⟩
    rw [hw]
    clear hw w4 CC
    cases hcon : (acc.map Prod.fst).contains o with
    | true =>
      have HQ : Hid (keyM acc (rst s p) = .inr (4, rst s p1)) := by show _ = _; unfold keyM; rw [HSK.out, HU2.out]; simp only [hcon, if_true]
      go_wp2_with fail
      go_ret2
      exact kp_bad HQ (.inr rfl) F3.out HR3.out
    | false =>
      have HQ0 : Hid (keyM acc (rst s p) = match skip (rst s (p1 + m2)) with | [] => .inr (1, []) | c :: t => if c = 58 then .inl (o, t) else .inr (1, c :: t)) := by
        show _ = _
        unfold keyM
        rw [HSK.out, HU2.out]
        simp only [hcon]
        rw [rst_drop]
        rfl
      have CP := hide (pass_rd b c s p1 dp m2 w3 HR3.out hs hm)
      clear hcon
      go_wp2_with fail
      refine CP.out.mono ?_
      rintro e w5 ⟨rfl, R5, O5⟩
      have HR5 := hide R5
      have F5 := hide (F3.out.trans (Fr.ofOth (b := b) O5))
      have hc := R5.box.c
      have CB := hide (blanks_rd b c s (p1 + m2) dp w5 R5 hs)
      clear R5 O5 CP F3 HR3 HK3
      go_wp2_with fail
      refine CB.out.mono ?_
      rintro e w6 ⟨t1, p2, rfl, hp2, hsk2, R6, K6⟩
      rw [hsk2] at HQ0
      have HR6 := hide R6
      have F6 := hide (F5.out.trans (Fr.ofKept (b := b) (K6) F5.out.size))
      have hc := R6.box.c
      have CT := hide (take_rd b c s p2 dp ⟨#[58]⟩ w6 R6 hs)
      clear hsk2 R6 K6 CB F5 HR5
      have e58 : (ByteArray.mk #[58]).data.toList = [58] := rfl
      rw [e58] at CT
      rcases head58 (rst s p2) with ⟨h1, t, ht⟩ | ⟨h1, ht⟩
      · have ht2 : rst s (p2 + 1) = t := by rw [← rst_drop, ht]; rfl
        have HQ : Hid (keyM acc (rst s p) = .inl (o, rst s (p2 + 1))) := by show _ = _; rw [HQ0.out, ht, ht2]; simp
        rw [h1] at CT
        clear ht ht2 h1 HQ0
        go_wp2_with fail
        refine CT.out.mono ?_
        rintro e w7 ⟨rfl, R7, O7⟩
        have HR7 := hide R7
        have F7 := hide (F6.out.trans (Fr.ofOth (b := b) O7))
        clear R7 O7
        go_wp2_with fail
        go_ret2
        exact kp_good HQ F7.out (by omega) HR7.out
      · have HQ : Hid (keyM acc (rst s p) = .inr (1, rst s p2)) := by
          show _ = _
          rw [HQ0.out]
          cases hl : rst s p2 with
          | nil => rfl
          | cons x t =>
            have : ¬ x = 58 := fun e => ht t (by rw [hl, e])
            simp only [if_neg this]
        rw [h1] at CT
        clear ht h1 HQ0
        go_wp2_with fail
        refine CT.out.mono ?_
        rintro e w7 ⟨rfl, R7, O7⟩
        have HR7 := hide R7
        have F7 := hide (F6.out.trans (Fr.ofOth (b := b) O7))
        clear R7 O7
        go_wp2_with fail
        go_ret2
        exact kp_bad HQ (.inl rfl) F7.out HR7.out

end Go.Proofs.YtnmmhihfnphjeaaDoor.B

namespace Go.Proofs.YtnmmhihfnphjeaaDoor.B
set_option linter.unusedSimpArgs false
set_option linter.unusedVariables false
open Go.RowKit Go.Vr Go.Sort Go.Tx Go.Lib
open Go.Br hiding Bs
open Go.Proofs.YtnmmhihfnphjeaaDoor.W (IsCur Oth Kept)
open Go.Joins (block_setCell unfrozen_of_block cell_of_block)
attribute [local go_sem] setCellDrewN allocDrewN

/-- How a value's reading ends. -/
def VPost (b c : Nat) (s : ByteArray) (p dp d : Nat) (w : World) (r : R (Val d)) (e : Ending) (w' : World) : Prop := Fr w.heap.size b c w w' ∧ match r with
  | .inl (x, q) => Good b c s p dp w' q ∧ ∃ v : SV, e = .returned (.tuple #[v.val, .int .i64 0]) ∧ VH w' (fun k => w.heap.size ≤ k) d x v
  | .inr (n, q) => 1 ≤ n ∧ Bad b c s w' q ∧ ∃ v : SV, e = .returned (.tuple #[v.val, .int .i64 n])
def ValueAt (d : Nat) : Prop := ∀ (b c : Nat) (s : ByteArray) (p dp : Nat) (w : World), Rd w b c s p dp → s.size ≤ 80000 → dp + d = 8 →
  Calls Tryd.prog 30 #[.pointer (some ⟨b, 0, none⟩)] w (VPost b c s p dp d w (valM d (rst s p)))

theorem EOwn.fr {α : Type} {E : El α} {w w' : World} {B B2 b c : Nat} {v : Value} {l : List α} (h : EOwn E w B v l) (hf : Fr B2 b c w w') (hB : w.heap.size ≤ B2) (hb : b < B) (hc : c < B) : EOwn E w' B v l := by
  refine ⟨h.1, ?_⟩
  rcases h.2 with h' | ⟨g, cap, cur, e, h1, h2, h3⟩
  · exact .inl h'
  · exact .inr ⟨g, cap, cur, e, h1, by rw [hf.block g (Nat.lt_of_lt_of_le (Array.getElem?_eq_some_iff.1 h2).1 hB) (by omega) (by omega)]; exact h2, h3⟩

/-- A list in the making: its variable in block N, the items so far. -/
structure LSt (b c : Nat) (w : World) (N1 N2 d : Nat) (acc : List (Val d)) : Prop where
  b1 : Box w N1 #[.pointer (some ⟨b, 0, none⟩)]
  lo : b < N1 ∧ c < N1 ∧ N1 < N2
  ex : ∃ L us, Box w N2 #[.int .i64 4, .int .i64 0, .string ⟨#[]⟩, .slice none 0 0, L] ∧ EOwn EV w (N2 + 1) L us ∧ All2 (VH w (fun k => N2 < k ∧ some k ≠ L.ownBlock) d) acc us

/-- How an item's reading ends. -/
def CPost (b c : Nat) (s : ByteArray) (p dp N1 : Nat) (w : World) {α : Type} (r : R α) (St : World → α → Prop) (St2 : World → Prop) (e : Ending) (w' : World) : Prop := Fr N1 b c w w' ∧ match r with
  | .inl (x, q) => Good b c s p dp w' q ∧ e = .returned (.int .i64 0) ∧ St w' x
  | .inr (n, q) => 1 ≤ n ∧ Bad b c s w' q ∧ e = .returned (.int .i64 n) ∧ St2 w'

theorem ownBlock_slice (g off n cap : Nat) : (Value.slice (some ⟨g, off, none⟩) n cap).ownBlock = some g := rfl

/-- A value's cells written at a place. -/
abbrev put5 (w : World) (g o : Nat) (v : SV) : World := ((((w.setCell ⟨g, o, none⟩ (.int .i64 v.k)).setCell ⟨g, o + 1, none⟩ (.int .i64 v.n)).setCell ⟨g, o + 2, none⟩ (.string v.s)).setCell ⟨g, o + 3, none⟩ (.slice v.ka v.kn v.kc)).setCell ⟨g, o + 4, none⟩ (.slice v.la v.ln v.lc)
theorem set5_take (L A : List Value) (n : Nat) (z0 z1 z2 z3 z4 x0 x1 x2 x3 x4 : Value) (hA : A.length = n) (h : L.take (n + 5) = A ++ [z0, z1, z2, z3, z4]) :
    (((((L.set n x0).set (n + 1) x1).set (n + 2) x2).set (n + 3) x3).set (n + 4) x4).take (n + 5) = A ++ [x0, x1, x2, x3, x4] := by
  have hL : L = A ++ (z0 :: z1 :: z2 :: z3 :: z4 :: L.drop (n + 5)) := by
    have := (List.take_append_drop (n + 5) L).symm
    rw [h] at this
    exact this.trans (by simp)
  generalize L.drop (n + 5) = R at hL
  subst hL
  subst hA
  simp [List.set_append, List.take_append]
  exact List.take_of_length_le (by omega)
theorem put5_block {w : World} {g o : Nat} {v : SV} {cur : Array Value} {T : TypeId} (h : w.heap[g]? = some (.cells cur T (0, 0))) :
    (put5 w g o v).heap[g]? = some (.cells (((((cur.setIfInBounds o (.int .i64 v.k)).setIfInBounds (o + 1) (.int .i64 v.n)).setIfInBounds (o + 2) (.string v.s)).setIfInBounds (o + 3) (.slice v.ka v.kn v.kc)).setIfInBounds (o + 4) (.slice v.la v.ln v.lc)) T (0, 0)) :=
  block_setCell (block_setCell (block_setCell (block_setCell (block_setCell h _) _) _) _) _
theorem put5_grown (w : World) (g o : Nat) (v : SV) : w.grownBy (put5 w g o v) (some g) :=
  grownBy_trans (grownBy_trans (grownBy_trans (grownBy_trans (grownBy_setCell _ _ _ _) (grownBy_setCell _ _ _ _) (.inl rfl)) (grownBy_setCell _ _ _ _) (.inl rfl)) (grownBy_setCell _ _ _ _) (.inl rfl)) (grownBy_setCell _ _ _ _) (.inl rfl)
theorem own_put {w : World} {B g n cap : Nat} {l : List SV} {z : SV} (h : EOwn EV w B (.slice (some ⟨g, 0, none⟩) n cap) (l ++ [z])) (v : SV) : EOwn EV (put5 w g (l.length * 5) v) B (.slice (some ⟨g, 0, none⟩) n cap) (l ++ [v]) := by
  obtain ⟨h1, h2⟩ := h
  refine ⟨by rw [EV.encs_len], ?_⟩
  rcases h2 with ⟨e, _⟩ | ⟨g', cap', cur, e, hB, hg, hnc, hcm, hcs, htk⟩
  · cases e
  · injection e with e1 e2 e3
    injection e1 with e1
    injection e1 with e1 _ _
    subst e1
    subst e3
    have hl2 : (l ++ [v]).length = (l ++ [z]).length := by simp
    refine .inr ⟨g, cap, _, by rw [e2, hl2], hB, put5_block hg, by rw [hl2]; exact hnc, hcm, by simpa using hcs, ?_⟩
    have hk : EV.k = 5 := rfl
    have h5 : (l ++ [v]).length * EV.k = l.length * 5 + 5 := by rw [hk]; simp; omega
    have h6 : (l ++ [z]).length * EV.k = l.length * 5 + 5 := by rw [hk]; simp; omega
    rw [h6, EV.encs_app] at htk
    rw [h5, EV.encs_app]
    have e4 : EV.encs [z] = [.int .i64 z.k, .int .i64 z.n, .string z.s, .slice z.ka z.kn z.kc, .slice z.la z.ln z.lc] := by simp [El.encs, EV]
    have e5 : EV.encs [v] = [.int .i64 v.k, .int .i64 v.n, .string v.s, .slice v.ka v.kn v.kc, .slice v.la v.ln v.lc] := by simp [El.encs, EV]
    rw [e4] at htk
    rw [e5]
    simp only [Array.toList_setIfInBounds]
    exact set5_take _ _ _ _ _ _ _ _ _ _ _ _ _ (by rw [EV.encs_len, hk]) htk
/-- A row whose last is z, for a walk. -/
theorem own_last {w : World} {B : Nat} {v : Value} {l : List SV} {z : SV} (h : EOwn EV w B v (l ++ [z])) : ∃ g cap, v = .slice (some ⟨g, 0, none⟩) (l.length + 1) cap ∧ B ≤ g ∧ g < w.heap.size ∧
    w.cell? ⟨g, l.length * 5, none⟩ = some (.int .i64 z.k) ∧ w.cell? ⟨g, l.length * 5 + 1, none⟩ = some (.int .i64 z.n) ∧ w.cell? ⟨g, l.length * 5 + 2, none⟩ = some (.string z.s) ∧ w.cell? ⟨g, l.length * 5 + 3, none⟩ = some (.slice z.ka z.kn z.kc) ∧ w.cell? ⟨g, l.length * 5 + 4, none⟩ = some (.slice z.la z.ln z.lc) ∧ ∀ o, w.frozen? ⟨g, o, none⟩ = false := by
  have hh := h
  rcases h.form with ⟨_, e⟩ | ⟨g, cap, rfl, hB, hg, hnc, hcm, hr⟩
  · simp at e
  · have hlast : (l ++ [z])[l.length]? = some z := by simp
    have hc := fun i u (hu : (EV.enc z)[i]? = some u) => hr.at_ l.length z hlast i u hu
    have hk : EV.k = 5 := rfl
    simp only [hk, Nat.zero_add] at hc
    refine ⟨g, cap, by simp, hB, hg, by simpa using hc 0 _ rfl, hc 1 _ rfl, hc 2 _ rfl, hc 3 _ rfl, hc 4 _ rfl, fun o => ?_⟩
    rcases hh.2 with ⟨e, _⟩ | ⟨g', cap', cur, e, _, hg2, _⟩
    · cases e
    · injection e with e1 e2 e3
      injection e1 with e1
      injection e1 with e1 _ _
      subst e1
      exact unfrozen_of_block hg2 o

theorem ERow.newAt {α : Type} (E : El α) {w : World} {g : Nat} {T : TypeId} {fr : Nat × Nat} (x : α) (h : w.heap[g]? = some (.cells (E.enc x).toArray T fr)) : ERow E w (some ⟨g, 0, .none⟩) 1 [x] := by
  refine ⟨rfl, (fun e => nomatch e), fun y e j v hj => ?_⟩
  obtain rfl : ⟨g, 0, .none⟩ = y := by simpa using e
  have e2 : E.encs [x] = E.enc x := by simp [El.encs]
  rw [e2] at hj
  rw [addr_add, Nat.zero_add, cell_of_block h]
  simpa using hj

theorem EOwn.setOther {α : Type} {E : El α} {w : World} {B N o : Nat} {v u : Value} {l : List α} (h : EOwn E w B v l) (hN : ∀ k, v.ownBlock = some k → k ≠ N) : EOwn E (w.setCell ⟨N, o, none⟩ u) B v l := by
  refine ⟨h.1, ?_⟩
  rcases h.2 with h' | ⟨g, cap, cur, e, h1, h2, h3⟩
  · exact .inl h'
  · refine .inr ⟨g, cap, cur, e, h1, ?_, h3⟩
    rw [Below.heap_setCell _ _ _ _ (hN g (by rw [e]; rfl))]
    exact h2

/-- All but block N, a row and what is new is as it was. -/
structure Gx (N : Nat) (ob : Option Nat) (w w' : World) : Prop where
  os : w'.os = w.os
  tape : w'.tape = w.tape
  output : w'.output = w.output
  size : w.heap.size ≤ w'.heap.size
  block : ∀ k, k < w.heap.size → k ≠ N → some k ≠ ob → w'.heap[k]? = w.heap[k]?
theorem Gx.grown {N : Nat} {ob r : Option Nat} {w w1 w2 : World} (h : Gx N ob w w1) (k : w1.grownBy w2 r) (hr : ∀ j, r = some j → j = N ∨ some j = ob ∨ w.heap.size ≤ j) : Gx N ob w w2 :=
  ⟨k.os.trans h.os, k.tape.trans h.tape, k.output.trans h.output, Nat.le_trans h.size k.size, fun i hi h1 h2 => (k.block i (Nat.lt_of_lt_of_le hi h.size) (fun e => by
    rcases hr i e.symm with h3 | h3 | h3
    · exact h1 h3
    · exact h2 h3
    · omega)).trans (h.block i hi h1 h2)⟩
theorem Gx.fr {N B b c : Nat} {ob : Option Nat} {w w' : World} (h : Gx N ob w w') (hB : B ≤ N) (hw : B ≤ w.heap.size) (ho : ∀ k, ob = some k → B ≤ k) : Fr B b c w w' :=
  ⟨h.os, h.tape, h.output, h.size, fun k hk _ _ => h.block k (by omega) (by omega) (fun e => by have := ho k e.symm; omega)⟩
theorem VH.mono {w : World} {Q Q' : Nat → Prop} {d : Nat} {x : Val d} {v : SV} (h : VH w Q d x v) (hQ : ∀ k, Q k → Q' k) : VH w Q' d x v := h.keep (fun _ _ _ => rfl) (fun k hq _ => hQ k hq)

theorem row_item {N2 : Nat} {us : List SV} {v0 z : SV} {W3 w4 : World} {L k0 n0 s0 K : Value} {g cap4 : Nat}
    (hB : Box W3 N2 #[k0, n0, s0, K, L])
    (o4 : EOwn EV w4 (N2 + 1) (.slice (some ⟨g, 0, none⟩) (us.length + 1) cap4) (us ++ [z])) (g5 : W3.grownBy w4 L.ownBlock) (t4 : some g = L.ownBlock ∨ W3.heap.size ≤ g) (hl : ∀ k, L.ownBlock = some k → N2 + 1 ≤ k) (hg : N2 + 1 ≤ g)
    (W5 : World) (h5 : W5 = (put5 w4 g (us.length * 5) v0).setCell ⟨N2, 4, none⟩ (.slice (some ⟨g, 0, none⟩) (us.length + 1) cap4) ∨ W5 = put5 (w4.setCell ⟨N2, 4, none⟩ (.slice (some ⟨g, 0, none⟩) (us.length + 1) cap4)) g (us.length * 5) v0) :
    Gx N2 L.ownBlock W3 W5 ∧ Box W5 N2 #[k0, n0, s0, K, .slice (some ⟨g, 0, none⟩) (us.length + 1) cap4] ∧ EOwn EV W5 (N2 + 1) (.slice (some ⟨g, 0, none⟩) (us.length + 1) cap4) (us ++ [v0]) := by
  have hB4 := hB.kept g5 (fun e => by have := hl N2 e; omega)
  have hgN : g ≠ N2 := by omega
  have hg3 : ∀ j, (some g : Option Nat) = some j → j = N2 ∨ some j = L.ownBlock ∨ W3.heap.size ≤ j := fun j e => by
    have e2 : g = j := Option.some.inj e
    subst e2
    rcases t4 with h2 | h2
    · exact .inr (.inl h2)
    · exact .inr (.inr h2)
  have hn3 : ∀ j, (some N2 : Option Nat) = some j → j = N2 ∨ some j = L.ownBlock ∨ W3.heap.size ≤ j := fun j e => .inl (Option.some.inj e).symm
  have G4 : Gx N2 L.ownBlock W3 w4 := ⟨g5.os, g5.tape, g5.output, g5.size, fun k hk _ h2 => g5.block k hk h2⟩
  rcases h5 with rfl | rfl
  · have gp := put5_grown w4 g (us.length * 5) v0
    have op := own_put o4 v0
    generalize put5 w4 g (us.length * 5) v0 = w5 at *
    exact ⟨(G4.grown gp hg3).grown (grownBy_setCell _ _ _ _) hn3, (hB4.kept gp (fun e => hgN (Option.some.inj e))).set 4 _ (by simp), op.setOther (fun k e => by have : g = k := Option.some.inj e; omega)⟩
  · have gs := grownBy_setCell w4 N2 4 (.slice (some ⟨g, 0, none⟩) (us.length + 1) cap4)
    have bs := hB4.set 4 (.slice (some ⟨g, 0, none⟩) (us.length + 1) cap4) (by simp)
    have os := o4.setOther (N := N2) (o := 4) (u := .slice (some ⟨g, 0, none⟩) (us.length + 1) cap4) (fun k e => by have : g = k := Option.some.inj e; omega)
    generalize w4.setCell ⟨N2, 4, none⟩ (.slice (some ⟨g, 0, none⟩) (us.length + 1) cap4) = w5 at *
    have gp := put5_grown w5 g (us.length * 5) v0
    have op := own_put os v0
    generalize put5 w5 g (us.length * 5) v0 = w6 at *
    exact ⟨(G4.grown gs hn3).grown gp hg3, bs.kept gp (fun e => hgN (Option.some.inj e)), op⟩

theorem add_item {N2 d : Nat} {acc : List (Val d)} {us : List SV} {x : Val d} {v0 z : SV} {W3 w4 : World} {L k0 n0 s0 K : Value} {g cap4 : Nat} {Q : Nat → Prop}
    (hB : Box W3 N2 #[k0, n0, s0, K, L]) (hQ : ∀ k, Q k → N2 < k ∧ some k ≠ L.ownBlock) (hA : All2 (VH W3 Q d) acc us) (hV : VH W3 Q d x v0)
    (o4 : EOwn EV w4 (N2 + 1) (.slice (some ⟨g, 0, none⟩) (us.length + 1) cap4) (us ++ [z])) (g5 : W3.grownBy w4 L.ownBlock) (t4 : some g = L.ownBlock ∨ W3.heap.size ≤ g) (hl : ∀ k, L.ownBlock = some k → N2 + 1 ≤ k) (hg : N2 + 1 ≤ g)
    (W5 : World) (h5 : W5 = (put5 w4 g (us.length * 5) v0).setCell ⟨N2, 4, none⟩ (.slice (some ⟨g, 0, none⟩) (us.length + 1) cap4) ∨ W5 = put5 (w4.setCell ⟨N2, 4, none⟩ (.slice (some ⟨g, 0, none⟩) (us.length + 1) cap4)) g (us.length * 5) v0) :
    Gx N2 L.ownBlock W3 W5 ∧ Box W5 N2 #[k0, n0, s0, K, .slice (some ⟨g, 0, none⟩) (us.length + 1) cap4] ∧ EOwn EV W5 (N2 + 1) (.slice (some ⟨g, 0, none⟩) (us.length + 1) cap4) (us ++ [v0]) ∧ All2 (VH W5 (fun k => Q k ∧ k ≠ g) d) (acc ++ [x]) (us ++ [v0]) := by
  have key := row_item (v0 := v0) hB o4 g5 t4 hl hg W5 h5
  refine ⟨key.1, key.2.1, key.2.2, ?_⟩
  have hk : ∀ k, Q k → k < W3.heap.size → W5.heap[k]? = W3.heap[k]? := fun k hq hk => key.1.block k hk (by have := (hQ k hq).1; omega) (hQ k hq).2
  have hq : ∀ k, Q k → k < W3.heap.size → Q k ∧ k ≠ g := fun k hq hk => ⟨hq, fun e => by
    rcases t4 with h | h
    · exact (hQ k hq).2 (by rw [e]; exact h)
    · omega⟩
  exact (hA.mono fun _ _ h => h.keep hk hq).snoc (hV.keep hk hq)

end Go.Proofs.YtnmmhihfnphjeaaDoor.B
