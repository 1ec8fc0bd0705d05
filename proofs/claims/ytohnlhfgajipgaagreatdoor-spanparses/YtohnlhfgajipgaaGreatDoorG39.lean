/-
  strings.IndexRune on ' |' at a rune above 127.
  strings.IndexAny at ' |', any bytes: at eight bytes or fewer by its own loop, at more by the library's set; so what is left of any text.
  strings.IndexAny at ' |': any text of at most eight bytes; so what is left of any text.
  The reference's way to read a word is the model's.
-/
import Derived.Test.YtohnlhfgajipgaaGreatDoorG38
import Derived.Shelf.Strings.IndexAny
import Derived.Deep.LoopGhost
import Derived.Test.YtohnlhfgajipgaaGreatDoorG37

namespace Go.Proofs.YtohnlhfgajipgaaGreatDoor
set_option linter.unusedSimpArgs false
set_option linter.unusedVariables false
open Go.RowKit Go.Vr Go.Sort Go.Tx Go.Lib
attribute [local go_sem] setCellDrewN allocDrewN

set_option maxHeartbeats 4000000 in
set_option maxRecDepth 100000 in
theorem idx_rune (r : Int) (w : World) (h : 128 ≤ r) : Calls Tryz.prog 155 #[.string ⟨#[32, 124]⟩, .int .i32 r] w fun e w' => e = .returned (.int .i64 (-1)) ∧ RowKit.Below w.heap.size w w' := by
  have k1 : (0 : Int) ≤ r := by omega
  have k2 : ¬ r < 128 := by omega
  have k3 : decide (r < 128) = false := decide_eq_false k2
  by_cases he : r = 65533
  · subst he
    go_enter Tryz.func155, Tryz.ntmps155
    go_wp2_with fail
    go_loopg [5, 6] 2 (fun g _ _ wx => ∃ i : Nat, i + g = 2 ∧ wx = w.iter ⟨#[32, 124]⟩ i)
    case atStart => exact ⟨0, by omega, rfl⟩
    case round =>
      obtain ⟨i, hig, rfl⟩ := hrel
      cases gk with
      | zero =>
        obtain rfl : i = 2 := by omega
        have hnx := run_next_end (P := Tryz.prog) w ⟨#[32, 124]⟩ 2
        go_wp2_with fail
        go_ret
        exact ⟨rfl, (RowKit.Below.refl _ _).alloc (Nat.le_refl _) _⟩
      | succ g =>
        have hi2 : i = 0 ∨ i = 1 := by omega
        rcases hi2 with rfl | rfl
        · have hnx := fun ty => run_next_ascii (P := Tryz.prog) w ⟨#[32, 124]⟩ 0 ty (by decide) (by decide)
          go_wp2_with fail
          go_roundg g
          case measure => omega
          case rel => exact ⟨1, by omega, rfl⟩
        · have hnx := fun ty => run_next_ascii (P := Tryz.prog) w ⟨#[32, 124]⟩ 1 ty (by decide) (by decide)
          go_wp2_with fail
          go_roundg g
          case measure => omega
          case rel => exact ⟨2, by omega, rfl⟩
  · have k4 : (r == 65533) = false := by simpa using he
    have HE := hide (enc_cases r h)
    generalize hz : Utf8.encode r = z at *
    have HZ := hide hz
    clear hz
    go_enter Tryz.func155, Tryz.ntmps155
    go_wp2_with fail
    refine (valid_rune r w).mono ?_
    rintro e w1 ⟨b, rfl, rfl⟩
    cases b with
    | false =>
      go_wp2_with fail
      go_ret
      exact ⟨rfl, (by repeat (first | with_reducible assumption | with_reducible exact Below.refl _ _ | with_reducible refine Below.setCell ?_ (by first | exact Nat.le_refl _ | (simp; done) | (simp; omega)) _ | with_reducible refine bal ?_ _ | with_reducible refine Below.alloc ?_ (by first | exact Nat.le_refl _ | (simp; done) | (simp; omega)) _ | with_reducible refine Below.drew ?_))⟩
    | true =>
      have u21 : (Tryz.prog.underlying 21).isSome = true := by kernel_rfl
      have hcv : ∀ w0 : World, (convert 21 9 (.int .i32 r)).run Tryz.prog w0 = .ok (.string z) w0 := fun w0 => by rw [run_convert_int_string w0 _ _ _ _ u21 Tryz.underlying9, HZ.out]
      rcases HE.out with ⟨a, b, rfl, hb⟩ | ⟨a, b, c, rfl⟩ | ⟨a, b, c, d, rfl⟩
      · go_wp2_with fail
        go_step3
        go_wp2_with fail
        have ww2 : IntKind.i64.wrap 2 = 2 := by decide
        have p1 : 1 < (⟨#[32, 124]⟩ : ByteArray).size := by decide
        have p2 : 1 < (⟨#[a, b]⟩ : ByteArray).size := by show 1 < 2; omega
        have CB : Hid (∀ W' : World, Calls Tryz.prog 138 #[.string (ByteArray.empty), .int .u8 (((⟨#[a, b]⟩ : ByteArray)[1]'p2).toNat : Int)] W' fun e w' => e = .returned (.int .i64 (-1)) ∧ w' = W') := fun W' => Any.strings_IndexByte { Tryz.lays153 with } (ByteArray.empty) (((⟨#[a, b]⟩ : ByteArray)[1]'p2).toNat : Int) W'
        have hne : ((124 : Int) == (b.toNat : Int)) = false := by simp; omega
        have hne2 : ¬ (124 : Int) = (b.toNat : Int) := by omega
        have hne3 : ¬ (124 : UInt8) = b := fun h => by rw [← h] at hb; exact absurd hb (by decide)
        have hne4 : ¬ 124 = b.toNat := by omega
        have hne5 : ((124 : Int) != (b.toNat : Int)) = true := by rw [bne, hne]; rfl
        have hne6 : (!(124 : Int) == (b.toNat : Int)) = true := by rw [hne]; rfl
        have hne7 : ((124 : UInt8).toNat == b.toNat) = false := by simp; omega
        have hne11 : ((((⟨#[32, 124]⟩ : ByteArray)[1]'p1).toNat : Int) != (((⟨#[a, b]⟩ : ByteArray)[1]'p2).toNat : Int)) = true := hne5
        have hne8 : ¬ b.toNat = 124 := by omega
        have hne9 : ¬ b = 124 := fun h => hne3 h.symm
        have hne10 : ((b.toNat : Int) == (124 : Int)) = false := by simp; omega
        go_loopw [9] (fun x wr => x = .int .i64 1 ∧ wr = w1) (fun _ _ => 0)
        case atStart => exact ⟨rfl, rfl⟩
        case round =>
          obtain ⟨rfl, rfl⟩ := hrel
          go_wp2_with fail
          go_step3
          go_wp2_with fail
          go_quiet (fail)
          have HB1 : Hid (RowKit.Below wr.heap.size wr (wr.drewN nq)) := hide (belDrewN wr nq)
          generalize wr.drewN nq = w2 at *
          go_wp2_with fail
          refine wp_region_quiet_lit (by kernel_rfl) (by kernel_rfl) ?_
          go_big_quiet_step (fail)
          go_big_quiet_step (fail)
          go_big_quiet_step (fail)
          go_big_quiet_step (fail)
          go_big_quiet_step (fail)
          go_big_quiet_step (fail)
          go_big_quiet_step (fail)
          go_big_quiet_step (exact Calls.quiet_of_same (CB.out _))
          go_big_quiet_step (fail)
          refine wpQuiet_nil ?_
          intro _ hw'
          obtain ⟨nq2, hw''⟩ := hw'
          subst hw''
          go_wp2_with fail
          show bodyPost Tryz.prog Tryz.f155 (fun e w' => e = .returned (.int .i64 (-1)) ∧ RowKit.Below wr.heap.size wr w') Exit.ret _ _
          go_ret
          exact ⟨rfl, step HB1.out (belDrewN w2 nq2)⟩
      · go_wp2_with fail
        go_step3
        go_wp2_with fail
        go_loopw [9] (fun x wr => x = .int .i64 2 ∧ wr = w1) (fun _ _ => 0)
        case atStart => exact ⟨rfl, rfl⟩
        case round =>
          obtain ⟨rfl, rfl⟩ := hrel
          go_wp2_with fail
          rw [Exit.noGoto_ret]
          go_ret
          exact ⟨rfl, (by repeat (first | with_reducible assumption | with_reducible exact Below.refl _ _ | with_reducible refine Below.setCell ?_ (by first | exact Nat.le_refl _ | (simp; done) | (simp; omega)) _ | with_reducible refine bal ?_ _ | with_reducible refine Below.alloc ?_ (by first | exact Nat.le_refl _ | (simp; done) | (simp; omega)) _ | with_reducible refine Below.drew ?_))⟩
      · go_wp2_with fail
        go_step3
        go_wp2_with fail
        go_loopw [9] (fun x wr => x = .int .i64 3 ∧ wr = w1) (fun _ _ => 0)
        case atStart => exact ⟨rfl, rfl⟩
        case round =>
          obtain ⟨rfl, rfl⟩ := hrel
          go_wp2_with fail
          rw [Exit.noGoto_ret]
          go_ret
          exact ⟨rfl, (by repeat (first | with_reducible assumption | with_reducible exact Below.refl _ _ | with_reducible refine Below.setCell ?_ (by first | exact Nat.le_refl _ | (simp; done) | (simp; omega)) _ | with_reducible refine bal ?_ _ | with_reducible refine Below.alloc ?_ (by first | exact Nat.le_refl _ | (simp; done) | (simp; omega)) _ | with_reducible refine Below.drew ?_))⟩
end Go.Proofs.YtohnlhfgajipgaaGreatDoor

namespace Go.Proofs.YtohnlhfgajipgaaGreatDoor
set_option linter.unusedSimpArgs false
set_option linter.unusedVariables false
open Go.RowKit Go.Vr Go.Sort Go.Tx Go.Lib
attribute [local go_sem] setCellDrewN allocDrewN

theorem decode_tail (s : ByteArray) (pos j : Nat) (h1 : 1 ≤ j) (h2 : j < (Utf8.decode s pos).2) : pos + j < s.size ∧ 128 ≤ (s.get! (pos + j)).toNat := by
  have key : ∀ k, (decide (pos + k < s.size) && ((s.get! (pos + k)).toNat / 64 == 2)) = true → pos + k < s.size ∧ 128 ≤ (s.get! (pos + k)).toNat := by
    intro k hk
    rw [Bool.and_eq_true, decide_eq_true_eq, beq_iff_eq] at hk
    omega
  simp only [Utf8.decode] at h2
  split at h2
  · simp at h2; omega
  · split at h2
    · rename_i hc
      rw [Bool.and_eq_true] at hc
      split at h2 <;> simp at h2
      · obtain rfl : j = 1 := by omega
        exact key 1 hc.2
      · omega
    · split at h2
      · rename_i hc
        rw [Bool.and_eq_true, Bool.and_eq_true] at hc
        split at h2 <;> simp at h2
        · obtain rfl | rfl : j = 1 ∨ j = 2 := by omega
          · exact key 1 hc.1.2
          · exact key 2 hc.2
        · omega
      · split at h2
        · rename_i hc
          rw [Bool.and_eq_true, Bool.and_eq_true, Bool.and_eq_true] at hc
          split at h2 <;> simp at h2
          · obtain rfl | rfl | rfl : j = 1 ∨ j = 2 ∨ j = 3 := by omega
            · exact key 1 hc.1.1.2
            · exact key 2 hc.1.2
            · exact key 3 hc.2
          · omega
        · simp at h2; omega
theorem decode_in (s : ByteArray) (pos : Nat) (h : pos < s.size) (ha : 128 ≤ (s[pos]'h).toNat) : pos + (Utf8.decode s pos).2 ≤ s.size := by
  have h1 := (decode_high s pos h ha).2
  by_cases h2 : (Utf8.decode s pos).2 = 1
  · omega
  · have := (decode_tail s pos ((Utf8.decode s pos).2 - 1) (by omega) (by omega)).1
    omega
theorem no_high {s : ByteArray} {i : Nat} (h : i < s.size) (ha : 128 ≤ (s[i]'h).toNat) (hn : NoAny s.data.toList [32, 124] i) : NoAny s.data.toList [32, 124] (i + (Utf8.decode s i).2) := by
  intro j b hj hb
  by_cases h1 : j < i
  · exact hn j b h1 hb
  · have hjs : j < s.size := by
      have := (List.getElem?_eq_some_iff.1 hb).1
      rw [len_eq] at this; exact this
    have hbj : b = s[j] := by
      have e := Lib.data_getElem? s j hjs
      rw [e] at hb
      exact (Option.some.inj hb).symm
    have h128 : 128 ≤ b.toNat := by
      rw [hbj]
      by_cases h2 : j = i
      · subst h2; exact ha
      · have := (decode_tail s i (j - i) (by omega) (by omega)).2
        rw [show i + (j - i) = j by omega] at this
        have e : s.get! j = s[j] := by
          have := get_at s j hjs
          simpa using this
        rw [e] at this; exact this
    have h3 : b ≠ 32 := fun e => by rw [e] at h128; exact absurd h128 (by decide)
    have h4 : b ≠ 124 := fun e => by rw [e] at h128; exact absurd h128 (by decide)
    simp [h3, h4]

/-- The iterator moved on. -/
def iterTo (w : World) (N : Nat) (s : ByteArray) (p : Nat) : World := { w with heap := w.heap.setIfInBounds N (.stringIter s p) }
theorem iterTo_size (w : World) (N : Nat) (s : ByteArray) (p : Nat) : (iterTo w N s p).heap.size = w.heap.size := by simp [iterTo]
theorem iterTo_at (w : World) (N : Nat) (s : ByteArray) (p : Nat) (h : N < w.heap.size) : (iterTo w N s p).heap[N]? = some (.stringIter s p) := by simp [iterTo, h]
theorem run_next_at (P : Program) (w : World) (N : Nat) (s : ByteArray) (pos : Nat) (ty : TypeId) (hN : w.heap[N]? = some (.stringIter s pos)) (h : pos < s.size) :
    (Instr.next (.pointer (some ⟨N, 0, none⟩)) true ty).run P w = .ok (.tuple #[.bool true, .int .i64 pos, .int .i32 (Utf8.decode s pos).1]) (iterTo w N s (pos + (Utf8.decode s pos).2)) := by
  simp only [Instr.next, getObj, setObj, Sem.run_bind, Sem.run, hN, Result.andThen, h, if_true]
  simp [goInt, Sem.run, iterTo, hN]
theorem run_next_stop (P : Program) (w : World) (N : Nat) (s : ByteArray) (pos : Nat) (ty : TypeId) (hN : w.heap[N]? = some (.stringIter s pos)) (h : ¬ pos < s.size) :
    (Instr.next (.pointer (some ⟨N, 0, none⟩)) true ty).run P w = .ok (.tuple #[.bool false]) w := by
  simp [Instr.next, getObj, Sem.run, hN, h]
theorem iterTo_below {w W : World} {s : ByteArray} {p : Nat} (h : RowKit.Below w.heap.size w W) : RowKit.Below w.heap.size w (iterTo W w.heap.size s p) := by
  obtain ⟨h1, h2, h3, h4, h5⟩ := h
  refine ⟨h1, h2, h3, by rw [iterTo_size]; exact h4, fun k hk => ?_⟩
  rw [← h5 k hk]
  have : ¬ w.heap.size = k := by omega
  simp [iterTo, Array.getElem?_setIfInBounds, this]

end Go.Proofs.YtohnlhfgajipgaaGreatDoor

namespace Go.Proofs.YtohnlhfgajipgaaGreatDoor
set_option linter.unusedSimpArgs false
set_option linter.unusedVariables false
open Go.RowKit Go.Vr Go.Sort Go.Tx Go.Lib
attribute [local go_sem] setCellDrewN allocDrewN

set_option maxHeartbeats 8000000 in
set_option maxRecDepth 1000000 in
theorem any_short (s : ByteArray) (w : World) (h8 : s.size ≤ 8) :
    Calls Tryz.prog 141 #[.string s, .string ⟨#[32, 124]⟩] w fun e w' => e = .returned (.int .i64 (indexAny s.data.toList [32, 124])) ∧ RowKit.Below w.heap.size w w' := by
  have h8z : decide ((8 : Int) < (s.size : Int)) = false := decide_eq_false (by omega)
  have CU := hide (fun (n : Int) (W : World) => Any.strings_shouldUseASCIISet (P := Tryz.prog) { Tryz.lays153 with } n W)
  have CI := hide (fun (r : Int) (W : World) (h0 : 0 ≤ r) (h1 : r < 128) => Any.strings_IndexRune_ascii (P := Tryz.prog) { Tryz.lays153 with } ⟨#[32, 124]⟩ r W h0 h1)
  have he2 : (ByteArray.mk #[32, 124]).toList.isEmpty = false := by rw [toList_data]; rfl
  go_enter Tryz.func141, Tryz.ntmps141
  go_wp2_with fail
  refine (CU.out _ _).mono ?_
  rw [h8z]
  rintro e w1 ⟨rfl, hw⟩
  rw [hw]
  clear hw w1
  go_wp2_with fail
  go_loopg [9, 10] s.size (fun g _ _ wx => ∃ i : Nat, s.size - i ≤ g ∧ i ≤ s.size ∧ Hid (wx.heap[w.heap.size]? = some (.stringIter s i)) ∧ Hid (NoAny s.data.toList [32, 124] i) ∧ Hid (RowKit.Below w.heap.size w wx))
  case atStart => exact ⟨0, by omega, by omega, hide (World.iter_heap w s 0), hide (NoAny.zero _ _), hide ((RowKit.Below.refl _ _).alloc (Nat.le_refl _) _)⟩
  case round =>
    obtain ⟨i, hig, hi, HI, HN, HB⟩ := hrel
    by_cases hlt : i < s.size
    · cases gk with
      | zero => omega
      | succ g =>
        have hNs : w.heap.size < wr.heap.size := (Array.getElem?_eq_some_iff.1 HI.out).1
        have hxl : s.data.toList[i]? = some s[i] := Lib.data_getElem? s i hlt
        by_cases ha : (s[i]).toNat < 128
        · have hnx0 := fun ty => run_next_at Tryz.prog wr w.heap.size s i ty HI.out hlt
          rw [decode_ascii s i hlt ha] at hnx0
          have HI2 := hide (iterTo_at wr w.heap.size s (i + 1) hNs)
          have HB2 := hide (iterTo_below (s := s) (p := i + 1) HB.out)
          simp only at hnx0
          generalize hx : s[i] = x at *
          generalize hW2 : iterTo wr w.heap.size s (i + 1) = W2 at *
          have HX := hide hxl
          have hcon := Lib.contains_iff_indexByte [32, 124] x
          have hback : ((x.toNat : Int)).toNat.toUInt8 = x := by simp
          have CI2 := hide (fun W => CI.out (x.toNat : Int) W (by omega) (by omega))
          rw [hback] at CI2
          clear CI CU hx hW2 hxl ha hback
          cases hin : ([32, 124] : List UInt8).contains x with
          | false =>
            rw [hin] at hcon
            have hq : decide ((0 : Int) ≤ indexByte [32, 124] x) = false := hcon.symm
            have HN2 := hide (HN.out.succ HX.out hin)
            generalize indexByte [32, 124] x = q at *
            have hq2 : ¬ (0 : Int) ≤ q := of_decide_eq_false hq
            clear hcon hin
            have HG := hide (And.intro hig hlt)
            clear hig hi hlt h8
            go_wp2_with fail
            refine (CI2.out _).mono ?_
            rintro e w3 ⟨rfl, hw⟩
            rw [hw]
            clear hw w3
            go_wp2_with fail
            go_roundg g
            case measure => have := HG.out; omega
            case rel => exact ⟨i + 1, by have := HG.out; omega, by have := HG.out.2; omega, HI2, HN2, HB2⟩
          | true =>
            rw [hin] at hcon
            have hq : decide ((0 : Int) ≤ indexByte [32, 124] x) = true := hcon.symm
            have HR := hide (indexAny_hit HN.out HX.out hin)
            generalize indexByte [32, 124] x = q at *
            have hq2 : (0 : Int) ≤ q := of_decide_eq_true hq
            clear hcon hin hig hi h8
            go_wp2_with fail
            refine (CI2.out _).mono ?_
            rintro e w3 ⟨rfl, hw⟩
            rw [hw]
            clear hw w3
            go_wp2_with fail
            go_ret
            exact ⟨ret_int HR.out.symm, HB2.out⟩
        · have hnx0 := fun ty => run_next_at Tryz.prog wr w.heap.size s i ty HI.out hlt
          have hd := decode_high s i hlt (by omega)
          have hin := decode_in s i hlt (by omega)
          have HN2 := hide (no_high hlt (by omega) HN.out)
          generalize hD : Utf8.decode s i = D at *
          obtain ⟨r, n⟩ := D
          simp only at hnx0 hd hin HN2
          have HI2 := hide (iterTo_at wr w.heap.size s (i + n) hNs)
          have HB2 := hide (iterTo_below (s := s) (p := i + n) HB.out)
          generalize hW2 : iterTo wr w.heap.size s (i + n) = W2 at *
          have CR := hide (fun W => idx_rune (r : Int) W (by omega))
          have HG := hide (And.intro hig (And.intro hlt (And.intro hd hin)))
          clear hD hW2 hig hi hlt h8 hd hin hxl ha CI CU
          go_wp2_with fail
          refine (CR.out _).mono ?_
          rintro e w3 ⟨rfl, b3⟩
          have hlt3 : w.heap.size < W2.heap.size := (Array.getElem?_eq_some_iff.1 HI2.out).1
          have HI3 := hide ((b3.block _ hlt3).trans HI2.out)
          have HB3 := hide (step HB2.out b3)
          clear b3 hlt3 hNs
          go_wp2_with fail
          go_roundg g
          case measure => have := HG.out; omega
          case rel => exact ⟨i + n, by have := HG.out; omega, by have := HG.out; omega, HI3, HN2, HB3⟩
    · obtain rfl : i = s.size := by omega
      have hnx := fun ty => run_next_stop Tryz.prog wr w.heap.size s s.size ty HI.out hlt
      clear hig h8 hi hlt
      go_wp2_with fail
      go_ret
      exact ⟨ret_int (indexAny_none (by rw [len_eq]; exact HN.out)).symm, HB.out⟩

end Go.Proofs.YtohnlhfgajipgaaGreatDoor

namespace Go.Sp
set_option linter.unusedVariables false
open Go.Vr Go.Tx Go.Lib

theorem nrm_one (a b : C) : nrm [(a, b)] = only cmpC a b := (nrm_uniq (nm_only a b) fun x => by
  show In cmpC _ x ↔ In cmpC _ x
  rw [in_only ord_cut, in_cons]
  exact ⟨.inl, fun h => h.resolve_right (in_nil x)⟩).symm
/-- The signs, as the reference tries them. -/
def sigs : List Bs := [[33, 61], [62, 61], [60, 61], [61], [62], [60], [94], [126], []]
def pref (g s : Bs) : Bool := s.take g.length == g
theorem sig_first (k : Nat) (hk : k < 9) (r : Bs) : (∀ j, j < k → pref (sigs.getD j []) (sigs.getD k [] ++ 118 :: r) = false) ∧ pref (sigs.getD k []) (sigs.getD k [] ++ 118 :: r) = true := by
  constructor
  · intro j hj
    match k, hk, j, hj with
    | 1, _, 0, _ => rfl
    | 2, _, 0, _ => rfl
    | 2, _, 1, _ => rfl
    | 3, _, 0, _ => rfl
    | 3, _, 1, _ => rfl
    | 3, _, 2, _ => rfl
    | 4, _, 0, _ => rfl
    | 4, _, 1, _ => rfl
    | 4, _, 2, _ => rfl
    | 4, _, 3, _ => rfl
    | 5, _, 0, _ => rfl
    | 5, _, 1, _ => rfl
    | 5, _, 2, _ => rfl
    | 5, _, 3, _ => rfl
    | 5, _, 4, _ => rfl
    | 6, _, 0, _ => rfl
    | 6, _, 1, _ => rfl
    | 6, _, 2, _ => rfl
    | 6, _, 3, _ => rfl
    | 6, _, 4, _ => rfl
    | 6, _, 5, _ => rfl
    | 7, _, 0, _ => rfl
    | 7, _, 1, _ => rfl
    | 7, _, 2, _ => rfl
    | 7, _, 3, _ => rfl
    | 7, _, 4, _ => rfl
    | 7, _, 5, _ => rfl
    | 7, _, 6, _ => rfl
    | 8, _, 0, _ => rfl
    | 8, _, 1, _ => rfl
    | 8, _, 2, _ => rfl
    | 8, _, 3, _ => rfl
    | 8, _, 4, _ => rfl
    | 8, _, 5, _ => rfl
    | 8, _, 6, _ => rfl
    | 8, _, 7, _ => rfl
  · match k, hk with
    | 0, _ => rfl
    | 1, _ => rfl
    | 2, _ => rfl
    | 3, _ => rfl
    | 4, _ => rfl
    | 5, _ => rfl
    | 6, _ => rfl
    | 7, _ => rfl
    | 8, _ => rfl
theorem sig_mem {g : Bs} {v : V} {l : List S} (h : signedM g v = some l) : ∃ k, k < 9 ∧ g = sigs.getD k [] := by
  unfold signedM at h
  by_cases h0 : g = [] ∨ g = [61]
  · rcases h0 with rfl | rfl
    · exact ⟨8, by omega, rfl⟩
    · exact ⟨3, by omega, rfl⟩
  rw [if_neg h0] at h
  by_cases h1 : g = [33, 61]
  · exact ⟨0, by omega, h1⟩
  rw [if_neg h1] at h
  by_cases h2 : g = [62]
  · exact ⟨4, by omega, h2⟩
  rw [if_neg h2] at h
  by_cases h3 : g = [62, 61]
  · exact ⟨1, by omega, h3⟩
  rw [if_neg h3] at h
  by_cases h4 : g = [60]
  · exact ⟨5, by omega, h4⟩
  rw [if_neg h4] at h
  by_cases h5 : g = [60, 61]
  · exact ⟨2, by omega, h5⟩
  rw [if_neg h5] at h
  by_cases h6 : g = [94]
  · exact ⟨6, by omega, h6⟩
  rw [if_neg h6] at h
  by_cases h7 : g = [126]
  · exact ⟨7, by omega, h7⟩
  rw [if_neg h7] at h
  exact nomatch h
theorem sig_no (k : Nat) (hk : k < 9) : ∀ c ∈ sigs.getD k [], c ≠ 118 := by
  match k, hk with
  | 0, _ => decide
  | 1, _ => decide
  | 2, _ => decide
  | 3, _ => decide
  | 4, _ => decide
  | 5, _ => decide
  | 6, _ => decide
  | 7, _ => decide
  | 8, _ => decide
theorem pref_eq {g s : Bs} (h : pref g s = true) : s = g ++ s.drop g.length := by
  have e : s.take g.length = g := by simpa [pref] using h
  conv => lhs; rw [← List.take_append_drop g.length s, e]
theorem txt_v (v : V) : ∃ r, txt v = 118 :: r := ⟨_, rfl⟩
theorem one_hit {s : Bs} (i : Nat) (hi : i < 9) (hp : pref (sigs.getD i []) s = true) (hn : ∀ j, j < i → pref (sigs.getD j []) s = false) (hs : s ≠ [42]) (hw : wildM s = none) :
    meantM s = meant2 (sigs.getD i []) (parse (s.drop (sigs.getD i []).length)) := by
  cases e : parse (s.drop (sigs.getD i []).length) with
  | some v =>
    obtain ⟨ok, ht⟩ := parse_some e
    have hs2 := pref_eq hp
    rw [← ht] at hs2
    conv => lhs; rw [hs2]
    exact meant_signed ok (sig_no i hi)
  | none =>
    show meantM s = none
    unfold meantM
    rw [if_neg hs, hw]
    show meant2 (s.take (vAt s)) (parse (s.drop (vAt s))) = none
    cases e2 : parse (s.drop (vAt s)) with
    | none => rfl
    | some v =>
      show signedM (s.take (vAt s)) v = none
      cases e3 : signedM (s.take (vAt s)) v with
      | none => rfl
      | some l =>
        exfalso
        obtain ⟨k, hk, hg⟩ := sig_mem e3
        obtain ⟨ok, ht⟩ := parse_some e2
        have hs2 : s = sigs.getD k [] ++ txt v := by rw [← hg, ht, List.take_append_drop]
        obtain ⟨r, hr⟩ := txt_v v
        obtain ⟨f1, f2⟩ := sig_first k hk r
        rw [← hr, ← hs2] at f1 f2
        have hik : i = k := by
          rcases Nat.lt_trichotomy i k with h | h | h
          · rw [f1 i h] at hp; exact nomatch hp
          · exact h
          · rw [hn k h] at f2; exact nomatch f2
        subst hik
        rw [hs2, List.drop_left, parse_txt ok] at e
        exact nomatch e
theorem sig_head {s : Bs} (i : Nat) (hi : i < 8) (hp : pref (sigs.getD i []) s = true) : parse s = none := by
  cases e : parse s with
  | none => rfl
  | some v =>
    exfalso
    obtain ⟨ok, ht⟩ := parse_some e
    obtain ⟨r, hr⟩ := txt_v v
    have h := (sig_first 8 (by omega) r).1 i hi
    have e2 : sigs.getD 8 [] ++ 118 :: r = s := by rw [← ht, hr]; rfl
    rw [e2, hp] at h
    exact nomatch h
/-- A word with a bar ahead says nothing. -/
theorem meant_bar (t : Bs) : meantM (45 :: t) = none := by
  have hp0 : parse (45 :: t) = none := by
    cases e : parse (45 :: t) with
    | none => rfl
    | some v => obtain ⟨r, hr⟩ := txt_v v; have := (parse_some e).2; rw [hr] at this; exact absurd (List.cons.inj this).1 (by decide)
  have hw : wildM (45 :: t) = none := by
    have np : ∀ y z : Bs, ∀ c : UInt8, parse (c :: y) ≠ none → c = 118 := by
      intro y _ c h
      cases e : parse (c :: y) with
      | none => exact absurd e h
      | some v => obtain ⟨r, hr⟩ := txt_v v; have := (parse_some e).2; rw [hr] at this; exact (List.cons.inj this).1.symm
    unfold wildM
    split
    · cases ht : (45 :: t).take ((45 :: t).length - 2) with
      | nil =>
        have e1 : parse ([] ++ [46, 48]) = none := by decide +kernel
        have e2 : parse ([] ++ [46, 48, 46, 48]) = none := by decide +kernel
        rw [e1, e2]; rfl
      | cons c u =>
        have hc : c = 45 := by
          cases hl : (45 :: t).length - 2 with
          | zero => rw [hl] at ht; exact nomatch ht
          | succ m => rw [hl, List.take_succ_cons] at ht; exact (List.cons.inj ht).1.symm
        subst hc
        have q : ∀ y : Bs, parse (45 :: y) = none := fun y => Classical.byContradiction fun h => absurd (np y [] 45 h) (by decide)
        rw [List.cons_append, List.cons_append, q, q]; rfl
    · rfl
  have h := one_hit (s := 45 :: t) 8 (by omega) (by rfl) (fun j hj => by
    match j, hj with
    | 0, _ => rfl
    | 1, _ => rfl
    | 2, _ => rfl
    | 3, _ => rfl
    | 4, _ => rfl
    | 5, _ => rfl
    | 6, _ => rfl
    | 7, _ => rfl) (by intro e; exact absurd (List.cons.inj e).1 (by decide)) hw
  rw [h]
  show meant2 [] (parse (45 :: t)) = none
  rw [hp0]; rfl
/-- Both of what all say and one more: all with that one. -/
theorem all_snoc {ls : List (List S)} {l : List S} (h : ∀ m ∈ ls, Row m) (k : Row l) : allL [allL ls, l] = allL (ls ++ [l]) := by
  have hr : Row (allL ls) := ⟨all_nm _, ok_all fun m hm => (h m hm).ok⟩
  have hr2 : ∀ m ∈ ls ++ [l], Row m := fun m hm => (List.mem_append.1 hm).elim (h m) (fun e => by rw [List.mem_singleton.1 e]; exact k)
  refine row_eq (hr.and k) ⟨all_nm _, ok_all fun m hm => (hr2 m hm).ok⟩ fun x => ?_
  rw [has_and hr k, all_has (fun m hm => (h m hm).nm) (fun m hm => (h m hm).ok), all_has (fun m hm => (hr2 m hm).nm) (fun m hm => (hr2 m hm).ok)]
  constructor
  · rintro ⟨⟨h1, h2, h3⟩, h4⟩
    exact ⟨h1, h2, fun m hm => (List.mem_append.1 hm).elim (h3 m) (fun e => by rw [List.mem_singleton.1 e]; exact h4)⟩
  · rintro ⟨h1, h2, h3⟩
    exact ⟨⟨h1, h2, fun m hm => h3 m (by simp [hm])⟩, h3 l (by simp)⟩
theorem all_nil : allL [] = notL [] := rfl
theorem or_snoc {ls : List (List S)} {l : List S} : nrm (nrm ls.flatten ++ l) = nrm (ls ++ [l]).flatten := nrm_uniq (nrm_nm _) fun x => (nrm_has _ x).trans (by
  show In cmpC _ x ↔ In cmpC _ x
  have e : (ls ++ [l]).flatten = ls.flatten ++ l := by simp
  rw [e, in_app, in_app]
  exact ⟨fun h => h.elim (fun h => .inl ((nrm_has _ x).1 h)) .inr, fun h => h.elim (fun h => .inl ((nrm_has _ x).2 h)) .inr⟩)
end Go.Sp
