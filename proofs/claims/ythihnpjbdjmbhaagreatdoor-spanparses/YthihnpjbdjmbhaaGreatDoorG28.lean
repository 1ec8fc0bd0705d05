/-
  strings.IndexAny at any bytes.
  strings.IndexRune on ' |' at a rune above 127.
  strings.IndexAny at ' |', any bytes: at eight bytes or fewer by its own loop, at more by the library's set; so what is left of any text.
  strings.IndexAny at ' |': any text of at most eight bytes; so what is left of any text.
  Plain mathematics of texts of versions: which bytes are in them.
  Plain mathematics of joining as the reference does it: spans put in one by one by their begins, then joined from the left; leaving out with empty spans between; one row's spans are told by its cells.
-/
import Derived.Test.YthihnpjbdjmbhaaGreatDoorG27
import Derived.Laws.RangeAny
import Derived.Laws.Runes
import Derived.WalkMore
import Derived.BigQuiet
import Derived.Shelf.Strings.IndexAny
import Derived.Deep.LoopGhost
import Derived.Test.YthihnpjbdjmbhaaGreatDoorG22
import Derived.Test.YthihnpjbdjmbhaaGreatDoorG09

namespace Go.Proofs.YthihnpjbdjmbhaaGreatDoor
set_option linter.unusedSimpArgs false
set_option linter.unusedVariables false
open Go.RowKit Go.Vr Go.Sort Go.Tx Go.Lib
attribute [local go_sem] setCellDrewN allocDrewN

theorem enc_cases (r : Int) (h : 128 ≤ r) : (∃ a b : UInt8, Utf8.encode r = ⟨#[a, b]⟩ ∧ 128 ≤ b.toNat) ∨ (∃ a b c : UInt8, Utf8.encode r = ⟨#[a, b, c]⟩) ∨ (∃ a b c d : UInt8, Utf8.encode r = ⟨#[a, b, c, d]⟩) := by
  unfold Utf8.encode
  have hc : 128 ≤ (if Utf8.valid r = true then r.toNat else Utf8.runeError) := by
    split
    · omega
    · decide
  generalize (if Utf8.valid r = true then r.toNat else Utf8.runeError) = c at *
  simp only
  rw [if_neg (by omega)]
  split
  · refine .inl ⟨_, _, rfl, ?_⟩
    rw [UInt8.toNat_ofNat']
    omega
  · split
    · exact .inr (.inl ⟨_, _, _, rfl⟩)
    · exact .inr (.inr ⟨_, _, _, _, rfl⟩)

set_option maxHeartbeats 2000000 in
theorem valid_rune (r : Int) (w : World) : Calls Tryz.prog 157 #[.int .i32 r] w fun e w' => ∃ b : Bool, e = .returned (.bool b) ∧ w' = w := by
  by_cases h1 : 0 ≤ r ∧ r < 55296
  · obtain ⟨h1, h2⟩ := h1
    go_enter Tryz.func157, Tryz.ntmps157
    go_wp2_with fail
    go_ret
    first | exact ⟨true, rfl, rfl⟩ | exact ⟨.inr rfl, rfl⟩
  · by_cases h0 : 0 ≤ r
    · have h2 : ¬ r < 55296 := fun h => h1 ⟨h0, h⟩
      have h2' : decide (r < 55296) = false := decide_eq_false h2
      by_cases h3 : 57343 < r
      · by_cases h4 : r ≤ 1114111
        all_goals
          go_enter Tryz.func157, Tryz.ntmps157
          go_wp2_with fail
          go_ret
          first | exact ⟨_, rfl, rfl⟩ | exact ⟨.inl rfl, rfl⟩ | exact ⟨.inr rfl, rfl⟩
      · go_enter Tryz.func157, Tryz.ntmps157
        go_wp2_with fail
        go_ret
        first | exact ⟨_, rfl, rfl⟩ | exact ⟨.inl rfl, rfl⟩ | exact ⟨.inr rfl, rfl⟩
    · have h3 : ¬ 57343 < r := by omega
      go_enter Tryz.func157, Tryz.ntmps157
      go_wp2_with fail
      go_ret
      first | exact ⟨_, rfl, rfl⟩ | exact ⟨.inl rfl, rfl⟩ | exact ⟨.inr rfl, rfl⟩

end Go.Proofs.YthihnpjbdjmbhaaGreatDoor

namespace Go.Proofs.YthihnpjbdjmbhaaGreatDoor
set_option linter.unusedSimpArgs false
set_option linter.unusedVariables false
open Go.RowKit Go.Vr Go.Sort Go.Tx Go.Lib
attribute [local go_sem] setCellDrewN allocDrewN

set_option maxHeartbeats 4000000 in
set_option maxRecDepth 100000 in
theorem idx_rune (r : Int) (w : World) (h : 128 ≤ r) : Calls Tryz.prog 134 #[.string ⟨#[32, 124]⟩, .int .i32 r] w fun e w' => e = .returned (.int .i64 (-1)) ∧ RowKit.Below w.heap.size w w' := by
  have k1 : (0 : Int) ≤ r := by omega
  have k2 : ¬ r < 128 := by omega
  have k3 : decide (r < 128) = false := decide_eq_false k2
  by_cases he : r = 65533
  · subst he
    go_enter Tryz.func134, Tryz.ntmps134
    go_wp2_with fail
    go_loopg [5, 6] 2 (fun g _ _ wx => ∃ i : Nat, i + g = 2 ∧ wx = w.iter ⟨#[32, 124]⟩ i)
    case atStart => exact ⟨0, by omega, rfl⟩
    case round =>
      obtain ⟨i, hig, rfl⟩ := hrel
      cases gk with
      | zero =>
        obtain rfl : i = 2 := by omega
        have hnx := run_next_end (P := Tryz.prog) w ⟨#[32, 124]⟩ 2
        go_wp2_with fail
        go_ret
        exact ⟨rfl, (RowKit.Below.refl _ _).alloc (Nat.le_refl _) _⟩
      | succ g =>
        have hi2 : i = 0 ∨ i = 1 := by omega
        rcases hi2 with rfl | rfl
        · have hnx := fun ty => run_next_ascii (P := Tryz.prog) w ⟨#[32, 124]⟩ 0 ty (by decide) (by decide)
          go_wp2_with fail
          go_roundg g
          case measure => omega
          case rel => exact ⟨1, by omega, rfl⟩
        · have hnx := fun ty => run_next_ascii (P := Tryz.prog) w ⟨#[32, 124]⟩ 1 ty (by decide) (by decide)
          go_wp2_with fail
          go_roundg g
          case measure => omega
          case rel => exact ⟨2, by omega, rfl⟩
  · have k4 : (r == 65533) = false := by simpa using he
    have HE := hide (enc_cases r h)
    generalize hz : Utf8.encode r = z at *
    have HZ := hide hz
    clear hz
    go_enter Tryz.func134, Tryz.ntmps134
    go_wp2_with fail
    refine (valid_rune r w).mono ?_
    rintro e w1 ⟨b, rfl, rfl⟩
    cases b with
    | false =>
      go_wp2_with fail
      go_ret
      exact ⟨rfl, (by repeat (first | with_reducible assumption | with_reducible exact Below.refl _ _ | with_reducible refine Below.setCell ?_ (by first | exact Nat.le_refl _ | (simp; done) | (simp; omega)) _ | with_reducible refine bal ?_ _ | with_reducible refine Below.alloc ?_ (by first | exact Nat.le_refl _ | (simp; done) | (simp; omega)) _ | with_reducible refine Below.drew ?_))⟩
    | true =>
      have u21 : (Tryz.prog.underlying 21).isSome = true := by kernel_rfl
      have hcv : ∀ w0 : World, (convert 21 9 (.int .i32 r)).run Tryz.prog w0 = .ok (.string z) w0 := fun w0 => by rw [run_convert_int_string w0 _ _ _ _ u21 Tryz.underlying9, HZ.out]
      rcases HE.out with ⟨a, b, rfl, hb⟩ | ⟨a, b, c, rfl⟩ | ⟨a, b, c, d, rfl⟩
      · go_wp2_with fail
        go_step3
        go_wp2_with fail
        have ww2 : IntKind.i64.wrap 2 = 2 := by decide
        have p1 : 1 < (⟨#[32, 124]⟩ : ByteArray).size := by decide
        have p2 : 1 < (⟨#[a, b]⟩ : ByteArray).size := by show 1 < 2; omega
        have CB : Hid (∀ W' : World, Calls Tryz.prog 120 #[.string (ByteArray.empty), .int .u8 (((⟨#[a, b]⟩ : ByteArray)[1]'p2).toNat : Int)] W' fun e w' => e = .returned (.int .i64 (-1)) ∧ w' = W') := fun W' => Any.strings_IndexByte { Tryz.lays153 with } (ByteArray.empty) (((⟨#[a, b]⟩ : ByteArray)[1]'p2).toNat : Int) W'
        have hne : ((124 : Int) == (b.toNat : Int)) = false := by simp; omega
        have hne2 : ¬ (124 : Int) = (b.toNat : Int) := by omega
        have hne3 : ¬ (124 : UInt8) = b := fun h => by rw [← h] at hb; exact absurd hb (by decide)
        have hne4 : ¬ 124 = b.toNat := by omega
        have hne5 : ((124 : Int) != (b.toNat : Int)) = true := by rw [bne, hne]; rfl
        have hne6 : (!(124 : Int) == (b.toNat : Int)) = true := by rw [hne]; rfl
        have hne7 : ((124 : UInt8).toNat == b.toNat) = false := by simp; omega
        have hne11 : ((((⟨#[32, 124]⟩ : ByteArray)[1]'p1).toNat : Int) != (((⟨#[a, b]⟩ : ByteArray)[1]'p2).toNat : Int)) = true := hne5
        have hne8 : ¬ b.toNat = 124 := by omega
        have hne9 : ¬ b = 124 := fun h => hne3 h.symm
        have hne10 : ((b.toNat : Int) == (124 : Int)) = false := by simp; omega
        go_loopw [9] (fun x wr => x = .int .i64 1 ∧ wr = w1) (fun _ _ => 0)
        case atStart => exact ⟨rfl, rfl⟩
        case round =>
          obtain ⟨rfl, rfl⟩ := hrel
          go_wp2_with fail
          go_step3
          go_wp2_with fail
          go_quiet (fail)
          have HB1 : Hid (RowKit.Below wr.heap.size wr (wr.drewN nq)) := hide (belDrewN wr nq)
          generalize wr.drewN nq = w2 at *
          go_wp2_with fail
          refine wp_region_quiet_lit (by kernel_rfl) (by kernel_rfl) ?_
          go_big_quiet_step (fail)
          go_big_quiet_step (fail)
          go_big_quiet_step (fail)
          go_big_quiet_step (fail)
          go_big_quiet_step (fail)
          go_big_quiet_step (fail)
          go_big_quiet_step (fail)
          go_big_quiet_step (exact Calls.quiet_of_same (CB.out _))
          go_big_quiet_step (fail)
          refine wpQuiet_nil ?_
          intro _ hw'
          obtain ⟨nq2, hw''⟩ := hw'
          subst hw''
          go_wp2_with fail
          show bodyPost Tryz.prog Tryz.f134 (fun e w' => e = .returned (.int .i64 (-1)) ∧ RowKit.Below wr.heap.size wr w') Exit.ret _ _
          go_ret
          exact ⟨rfl, step HB1.out (belDrewN w2 nq2)⟩
      · go_wp2_with fail
        go_step3
        go_wp2_with fail
        go_loopw [9] (fun x wr => x = .int .i64 2 ∧ wr = w1) (fun _ _ => 0)
        case atStart => exact ⟨rfl, rfl⟩
        case round =>
          obtain ⟨rfl, rfl⟩ := hrel
          go_wp2_with fail
          rw [Exit.noGoto_ret]
          go_ret
          exact ⟨rfl, (by repeat (first | with_reducible assumption | with_reducible exact Below.refl _ _ | with_reducible refine Below.setCell ?_ (by first | exact Nat.le_refl _ | (simp; done) | (simp; omega)) _ | with_reducible refine bal ?_ _ | with_reducible refine Below.alloc ?_ (by first | exact Nat.le_refl _ | (simp; done) | (simp; omega)) _ | with_reducible refine Below.drew ?_))⟩
      · go_wp2_with fail
        go_step3
        go_wp2_with fail
        go_loopw [9] (fun x wr => x = .int .i64 3 ∧ wr = w1) (fun _ _ => 0)
        case atStart => exact ⟨rfl, rfl⟩
        case round =>
          obtain ⟨rfl, rfl⟩ := hrel
          go_wp2_with fail
          rw [Exit.noGoto_ret]
          go_ret
          exact ⟨rfl, (by repeat (first | with_reducible assumption | with_reducible exact Below.refl _ _ | with_reducible refine Below.setCell ?_ (by first | exact Nat.le_refl _ | (simp; done) | (simp; omega)) _ | with_reducible refine bal ?_ _ | with_reducible refine Below.alloc ?_ (by first | exact Nat.le_refl _ | (simp; done) | (simp; omega)) _ | with_reducible refine Below.drew ?_))⟩
end Go.Proofs.YthihnpjbdjmbhaaGreatDoor

namespace Go.Proofs.YthihnpjbdjmbhaaGreatDoor
set_option linter.unusedSimpArgs false
set_option linter.unusedVariables false
open Go.RowKit Go.Vr Go.Sort Go.Tx Go.Lib
attribute [local go_sem] setCellDrewN allocDrewN

theorem decode_tail (s : ByteArray) (pos j : Nat) (h1 : 1 ≤ j) (h2 : j < (Utf8.decode s pos).2) : pos + j < s.size ∧ 128 ≤ (s.get! (pos + j)).toNat := by
  have key : ∀ k, (decide (pos + k < s.size) && ((s.get! (pos + k)).toNat / 64 == 2)) = true → pos + k < s.size ∧ 128 ≤ (s.get! (pos + k)).toNat := by
    intro k hk
    rw [Bool.and_eq_true, decide_eq_true_eq, beq_iff_eq] at hk
    omega
  simp only [Utf8.decode] at h2
  split at h2
  · simp at h2; omega
  · split at h2
    · rename_i hc
      rw [Bool.and_eq_true] at hc
      split at h2 <;> simp at h2
      · obtain rfl : j = 1 := by omega
        exact key 1 hc.2
      · omega
    · split at h2
      · rename_i hc
        rw [Bool.and_eq_true, Bool.and_eq_true] at hc
        split at h2 <;> simp at h2
        · obtain rfl | rfl : j = 1 ∨ j = 2 := by omega
          · exact key 1 hc.1.2
          · exact key 2 hc.2
        · omega
      · split at h2
        · rename_i hc
          rw [Bool.and_eq_true, Bool.and_eq_true, Bool.and_eq_true] at hc
          split at h2 <;> simp at h2
          · obtain rfl | rfl | rfl : j = 1 ∨ j = 2 ∨ j = 3 := by omega
            · exact key 1 hc.1.1.2
            · exact key 2 hc.1.2
            · exact key 3 hc.2
          · omega
        · simp at h2; omega
theorem decode_in (s : ByteArray) (pos : Nat) (h : pos < s.size) (ha : 128 ≤ (s[pos]'h).toNat) : pos + (Utf8.decode s pos).2 ≤ s.size := by
  have h1 := (decode_high s pos h ha).2
  by_cases h2 : (Utf8.decode s pos).2 = 1
  · omega
  · have := (decode_tail s pos ((Utf8.decode s pos).2 - 1) (by omega) (by omega)).1
    omega
theorem no_high {s : ByteArray} {i : Nat} (h : i < s.size) (ha : 128 ≤ (s[i]'h).toNat) (hn : NoAny s.data.toList [32, 124] i) : NoAny s.data.toList [32, 124] (i + (Utf8.decode s i).2) := by
  intro j b hj hb
  by_cases h1 : j < i
  · exact hn j b h1 hb
  · have hjs : j < s.size := by
      have := (List.getElem?_eq_some_iff.1 hb).1
      rw [len_eq] at this; exact this
    have hbj : b = s[j] := by
      have e := Lib.data_getElem? s j hjs
      rw [e] at hb
      exact (Option.some.inj hb).symm
    have h128 : 128 ≤ b.toNat := by
      rw [hbj]
      by_cases h2 : j = i
      · subst h2; exact ha
      · have := (decode_tail s i (j - i) (by omega) (by omega)).2
        rw [show i + (j - i) = j by omega] at this
        have e : s.get! j = s[j] := by
          have := get_at s j hjs
          simpa using this
        rw [e] at this; exact this
    have h3 : b ≠ 32 := fun e => by rw [e] at h128; exact absurd h128 (by decide)
    have h4 : b ≠ 124 := fun e => by rw [e] at h128; exact absurd h128 (by decide)
    simp [h3, h4]

/-- The iterator moved on. -/
def iterTo (w : World) (N : Nat) (s : ByteArray) (p : Nat) : World := { w with heap := w.heap.setIfInBounds N (.stringIter s p) }
theorem iterTo_size (w : World) (N : Nat) (s : ByteArray) (p : Nat) : (iterTo w N s p).heap.size = w.heap.size := by simp [iterTo]
theorem iterTo_at (w : World) (N : Nat) (s : ByteArray) (p : Nat) (h : N < w.heap.size) : (iterTo w N s p).heap[N]? = some (.stringIter s p) := by simp [iterTo, h]
theorem run_next_at (P : Program) (w : World) (N : Nat) (s : ByteArray) (pos : Nat) (ty : TypeId) (hN : w.heap[N]? = some (.stringIter s pos)) (h : pos < s.size) :
    (Instr.next (.pointer (some ⟨N, 0, none⟩)) true ty).run P w = .ok (.tuple #[.bool true, .int .i64 pos, .int .i32 (Utf8.decode s pos).1]) (iterTo w N s (pos + (Utf8.decode s pos).2)) := by
  simp only [Instr.next, getObj, setObj, Sem.run_bind, Sem.run, hN, Result.andThen, h, if_true]
  simp [goInt, Sem.run, iterTo, hN]
theorem run_next_stop (P : Program) (w : World) (N : Nat) (s : ByteArray) (pos : Nat) (ty : TypeId) (hN : w.heap[N]? = some (.stringIter s pos)) (h : ¬ pos < s.size) :
    (Instr.next (.pointer (some ⟨N, 0, none⟩)) true ty).run P w = .ok (.tuple #[.bool false]) w := by
  simp [Instr.next, getObj, Sem.run, hN, h]
theorem iterTo_below {w W : World} {s : ByteArray} {p : Nat} (h : RowKit.Below w.heap.size w W) : RowKit.Below w.heap.size w (iterTo W w.heap.size s p) := by
  obtain ⟨h1, h2, h3, h4, h5⟩ := h
  refine ⟨h1, h2, h3, by rw [iterTo_size]; exact h4, fun k hk => ?_⟩
  rw [← h5 k hk]
  have : ¬ w.heap.size = k := by omega
  simp [iterTo, Array.getElem?_setIfInBounds, this]

end Go.Proofs.YthihnpjbdjmbhaaGreatDoor

namespace Go.Proofs.YthihnpjbdjmbhaaGreatDoor
set_option linter.unusedSimpArgs false
set_option linter.unusedVariables false
open Go.RowKit Go.Vr Go.Sort Go.Tx Go.Lib
attribute [local go_sem] setCellDrewN allocDrewN

set_option maxHeartbeats 8000000 in
set_option maxRecDepth 1000000 in
theorem any_short (s : ByteArray) (w : World) (h8 : s.size ≤ 8) :
    Calls Tryz.prog 118 #[.string s, .string ⟨#[32, 124]⟩] w fun e w' => e = .returned (.int .i64 (indexAny s.data.toList [32, 124])) ∧ RowKit.Below w.heap.size w w' := by
  have h8z : decide ((8 : Int) < (s.size : Int)) = false := decide_eq_false (by omega)
  have CU := hide (fun (n : Int) (W : World) => Any.strings_shouldUseASCIISet (P := Tryz.prog) { Tryz.lays153 with } n W)
  have CI := hide (fun (r : Int) (W : World) (h0 : 0 ≤ r) (h1 : r < 128) => Any.strings_IndexRune_ascii (P := Tryz.prog) { Tryz.lays153 with } ⟨#[32, 124]⟩ r W h0 h1)
  have he2 : (ByteArray.mk #[32, 124]).toList.isEmpty = false := by rw [toList_data]; rfl
  go_enter Tryz.func118, Tryz.ntmps118
  go_wp2_with fail
  refine (CU.out _ _).mono ?_
  rw [h8z]
  rintro e w1 ⟨rfl, hw⟩
  rw [hw]
  clear hw w1
  go_wp2_with fail
  go_loopg [9, 10] s.size (fun g _ _ wx => ∃ i : Nat, s.size - i ≤ g ∧ i ≤ s.size ∧ Hid (wx.heap[w.heap.size]? = some (.stringIter s i)) ∧ Hid (NoAny s.data.toList [32, 124] i) ∧ Hid (RowKit.Below w.heap.size w wx))
  case atStart => exact ⟨0, by omega, by omega, hide (World.iter_heap w s 0), hide (NoAny.zero _ _), hide ((RowKit.Below.refl _ _).alloc (Nat.le_refl _) _)⟩
  case round =>
    obtain ⟨i, hig, hi, HI, HN, HB⟩ := hrel
    by_cases hlt : i < s.size
    · cases gk with
      | zero => omega
      | succ g =>
        have hNs : w.heap.size < wr.heap.size := (Array.getElem?_eq_some_iff.1 HI.out).1
        have hxl : s.data.toList[i]? = some s[i] := Lib.data_getElem? s i hlt
        by_cases ha : (s[i]).toNat < 128
        · have hnx0 := fun ty => run_next_at Tryz.prog wr w.heap.size s i ty HI.out hlt
          rw [decode_ascii s i hlt ha] at hnx0
          have HI2 := hide (iterTo_at wr w.heap.size s (i + 1) hNs)
          have HB2 := hide (iterTo_below (s := s) (p := i + 1) HB.out)
          simp only at hnx0
          generalize hx : s[i] = x at *
          generalize hW2 : iterTo wr w.heap.size s (i + 1) = W2 at *
          have HX := hide hxl
          have hcon := Lib.contains_iff_indexByte [32, 124] x
          have hback : ((x.toNat : Int)).toNat.toUInt8 = x := by simp
          have CI2 := hide (fun W => CI.out (x.toNat : Int) W (by omega) (by omega))
          rw [hback] at CI2
          clear CI CU hx hW2 hxl ha hback
          cases hin : ([32, 124] : List UInt8).contains x with
          | false =>
            rw [hin] at hcon
            have hq : decide ((0 : Int) ≤ indexByte [32, 124] x) = false := hcon.symm
            have HN2 := hide (HN.out.succ HX.out hin)
            generalize indexByte [32, 124] x = q at *
            have hq2 : ¬ (0 : Int) ≤ q := of_decide_eq_false hq
            clear hcon hin
            have HG := hide (And.intro hig hlt)
            clear hig hi hlt h8
            go_wp2_with fail
            refine (CI2.out _).mono ?_
            rintro e w3 ⟨rfl, hw⟩
            rw [hw]
            clear hw w3
            go_wp2_with fail
            go_roundg g
            case measure => have := HG.out; omega
            case rel => exact ⟨i + 1, by have := HG.out; omega, by have := HG.out.2; omega, HI2, HN2, HB2⟩
          | true =>
            rw [hin] at hcon
            have hq : decide ((0 : Int) ≤ indexByte [32, 124] x) = true := hcon.symm
            have HR := hide (indexAny_hit HN.out HX.out hin)
            generalize indexByte [32, 124] x = q at *
            have hq2 : (0 : Int) ≤ q := of_decide_eq_true hq
            clear hcon hin hig hi h8
            go_wp2_with fail
            refine (CI2.out _).mono ?_
            rintro e w3 ⟨rfl, hw⟩
            rw [hw]
            clear hw w3
            go_wp2_with fail
            go_ret
            exact ⟨ret_int HR.out.symm, HB2.out⟩
        · have hnx0 := fun ty => run_next_at Tryz.prog wr w.heap.size s i ty HI.out hlt
          have hd := decode_high s i hlt (by omega)
          have hin := decode_in s i hlt (by omega)
          have HN2 := hide (no_high hlt (by omega) HN.out)
          generalize hD : Utf8.decode s i = D at *
          obtain ⟨r, n⟩ := D
          simp only at hnx0 hd hin HN2
          have HI2 := hide (iterTo_at wr w.heap.size s (i + n) hNs)
          have HB2 := hide (iterTo_below (s := s) (p := i + n) HB.out)
          generalize hW2 : iterTo wr w.heap.size s (i + n) = W2 at *
          have CR := hide (fun W => idx_rune (r : Int) W (by omega))
          have HG := hide (And.intro hig (And.intro hlt (And.intro hd hin)))
          clear hD hW2 hig hi hlt h8 hd hin hxl ha CI CU
          go_wp2_with fail
          refine (CR.out _).mono ?_
          rintro e w3 ⟨rfl, b3⟩
          have hlt3 : w.heap.size < W2.heap.size := (Array.getElem?_eq_some_iff.1 HI2.out).1
          have HI3 := hide ((b3.block _ hlt3).trans HI2.out)
          have HB3 := hide (step HB2.out b3)
          clear b3 hlt3 hNs
          go_wp2_with fail
          go_roundg g
          case measure => have := HG.out; omega
          case rel => exact ⟨i + n, by have := HG.out; omega, by have := HG.out; omega, HI3, HN2, HB3⟩
    · obtain rfl : i = s.size := by omega
      have hnx := fun ty => run_next_stop Tryz.prog wr w.heap.size s s.size ty HI.out hlt
      clear hig h8 hi hlt
      go_wp2_with fail
      go_ret
      exact ⟨ret_int (indexAny_none (by rw [len_eq]; exact HN.out)).symm, HB.out⟩

end Go.Proofs.YthihnpjbdjmbhaaGreatDoor

namespace Go.Sp
set_option linter.unusedVariables false
open Go.Vr Go.Tx Go.Lib

/-- A byte of a version's text. -/
def isVb (c : UInt8) : Bool := isWd c || c == 46
theorem words_mem : ∀ (l : Bs), ∀ c ∈ l, c = 46 ∨ ∃ w ∈ words l, c ∈ w
  | [], c, h => by simp at h
  | d :: l, c, h => by
    by_cases hd : d = 46
    · subst hd
      rw [words_dot]
      rcases List.mem_cons.1 h with rfl | h
      · exact .inl rfl
      · rcases words_mem l c h with e | ⟨w, hw, hc⟩
        · exact .inl e
        · exact .inr ⟨w, by simp [hw], hc⟩
    · cases e : words l with
      | nil => exact absurd e (words_ne l)
      | cons v vs =>
        rw [words_cons hd e]
        rcases List.mem_cons.1 h with rfl | h
        · exact .inr ⟨c :: v, by simp, by simp⟩
        · rcases words_mem l c h with e2 | ⟨w, hw, hc⟩
          · exact .inl e2
          · rw [e] at hw
            rcases List.mem_cons.1 hw with rfl | hw
            · exact .inr ⟨d :: w, by simp, by simp [hc]⟩
            · exact .inr ⟨w, by simp [hw], hc⟩
theorem pre_bytes {p : Bs} (h : preOk p = true) : ∀ c ∈ p, isVb c = true := by
  intro c hc
  unfold preOk at h
  rw [Bool.and_eq_true, Bool.or_eq_true] at h
  have hp : (words p).all wordOk = true := h.2.resolve_left (by intro e; have := List.isEmpty_iff.1 e; subst this; simp at hc)
  rcases words_mem p c hc with rfl | ⟨w, hw, hcw⟩
  · decide
  · have := List.all_eq_true.1 hp w hw
    unfold wordOk at this
    simp only [Bool.and_eq_true] at this
    have := List.all_eq_true.1 this.2 c hcw
    unfold isVb; rw [this]; rfl
theorem dig_vb {x : Bs} (h : x.all isDig = true) : ∀ c ∈ x, isVb c = true := by
  intro c hc
  have := List.all_eq_true.1 h c hc
  unfold isVb isWd; rw [this]; rfl
theorem txt_bytes {v : V} (h : v.ok = true) : ∀ c ∈ txt v, isVb c = true := by
  obtain ⟨h1, h2, h3, h4⟩ := ok_parts h
  have i1 := dig_vb (itoa_ok v.a h1.1 (by omega)).2.2.1
  have i2 := dig_vb (itoa_ok v.b h2.1 (by omega)).2.2.1
  have i3 := dig_vb (itoa_ok v.c h3.1 (by omega)).2.2.1
  have i4 := pre_bytes h4
  intro c hc
  unfold txt tail at hc
  simp only [List.mem_cons, List.mem_append] at hc
  rcases hc with rfl | hc | rfl | hc | rfl | hc | hc
  · decide
  · exact i1 c hc
  · decide
  · exact i2 c hc
  · decide
  · exact i3 c hc
  · split at hc
    · simp at hc
    · rcases List.mem_cons.1 hc with rfl | hc
      · decide
      · exact i4 c hc
theorem txt_ne {v : V} (h : v.ok = true) (d : UInt8) (hd : isVb d = false) : ∀ c ∈ txt v, c ≠ d := by
  rintro c hc rfl
  rw [txt_bytes h c hc] at hd
  exact nomatch hd
theorem vb_small (c : UInt8) (h : isVb c = true) : c.toNat < 128 := by
  unfold isVb isWd isDig isLet at h
  simp only [Bool.or_eq_true, Bool.and_eq_true, decide_eq_true_eq, beq_iff_eq] at h
  rcases h with (h | h) | h
  · omega
  · omega
  · subst h; decide
theorem txt_inj {v u : V} (hv : v.ok = true) (hu : u.ok = true) (h : txt v = txt u) : v = u := by
  have h1 := parse_txt hv
  rw [h, parse_txt hu] at h1
  exact (Option.some.inj h1).symm
/-- Up to the first byte of a kind. -/
theorem cut_eq {p : UInt8 → Bool} {x y : Bs} {c d : UInt8} {r t : Bs} (hx : ∀ b ∈ x, p b = true) (hy : ∀ b ∈ y, p b = true) (hc : p c = false) (hd : p d = false) (h : x ++ c :: r = y ++ d :: t) : x = y ∧ c = d ∧ r = t := by
  induction x generalizing y with
  | nil =>
    cases y with
    | nil =>
      injection h with h1 h2
      exact ⟨rfl, h1, h2⟩
    | cons b y =>
      injection h with h1 h2
      rw [h1, hy b (by simp)] at hc
      exact nomatch hc
  | cons a x ih =>
    cases y with
    | nil =>
      injection h with h1 h2
      rw [← h1, hx a (by simp)] at hd
      exact nomatch hd
    | cons b y =>
      injection h with h1 h2
      obtain ⟨e1, e2, e3⟩ := ih (fun b hb => hx b (by simp [hb])) (fun b hb => hy b (by simp [hb])) h2
      exact ⟨by rw [h1, e1], e2, e3⟩
end Go.Sp

namespace Go.Sp
set_option linter.unusedVariables false
open Go.Vr Go.Tx

theorem rise_at {l : List S} (h : Rise cmpC l) : ∀ (i j : Nat) (x y : S), i ≤ j → l[i]? = some x → l[j]? = some y → cmpC x.1 y.1 ≤ 0 := by
  induction l with
  | nil => intro i j x y _ hx; simp at hx
  | cons s l ih =>
    intro i j x y hij hx hy
    cases i with
    | zero =>
      obtain rfl : s = x := by simpa using hx
      cases j with
      | zero =>
        obtain rfl : s = y := by simpa using hy
        rw [ord_cut.refl]; omega
      | succ j => exact h.1 y (List.mem_of_getElem? (by simpa using hy))
    | succ i =>
      cases j with
      | zero => omega
      | succ j => exact ih h.2 i j x y (by omega) (by simpa using hx) (by simpa using hy)
theorem rise_app : ∀ {a b : List S}, Rise cmpC a → Rise cmpC b → (∀ s ∈ a, ∀ t ∈ b, cmpC s.1 t.1 ≤ 0) → Rise cmpC (a ++ b)
  | [], _, _, hb, _ => hb
  | s :: a, b, ha, hb, h => by
    refine ⟨fun t ht => ?_, rise_app ha.2 hb fun u hu t ht => h u (by simp [hu]) t ht⟩
    rcases List.mem_append.1 ht with ht | ht
    · exact ha.1 t ht
    · exact h s (by simp) t ht
theorem rise_take : ∀ {a : List S} (k : Nat), Rise cmpC a → Rise cmpC (a.take k)
  | _, 0, _ => by rw [List.take_zero]; trivial
  | [], _ + 1, _ => trivial
  | s :: a, k + 1, h => ⟨fun t ht => h.1 t (List.mem_of_mem_take ht), rise_take k h.2⟩
theorem rise_drop : ∀ {a : List S} (k : Nat), Rise cmpC a → Rise cmpC (a.drop k)
  | _, 0, h => h
  | [], _ + 1, _ => trivial
  | _ :: _, k + 1, h => rise_drop k h.2
/-- One put in at the place that the walk from behind finds. -/
theorem rise_put {l : List S} (hr : Rise cmpC l) (x : S) (k : Nat) (h1 : ∀ t ∈ l.drop k, cmpC x.1 t.1 < 0) (h2 : k = 0 ∨ ∃ y, l[k - 1]? = some y ∧ ¬ cmpC x.1 y.1 < 0) : Rise cmpC (l.take k ++ [x] ++ l.drop k) := by
  have hx : Rise cmpC [x] := ⟨by simp, trivial⟩
  refine rise_app (rise_app (rise_take k hr) hx fun s hs t ht => ?_) (rise_drop k hr) fun s hs t ht => ?_
  · obtain rfl := List.mem_singleton.1 ht
    obtain ⟨i, hi⟩ := List.getElem?_of_mem hs
    rw [List.getElem?_take] at hi
    split at hi
    · rename_i hik
      rcases h2 with rfl | ⟨y, hy, hn⟩
      · omega
      · exact ord_cut.le _ _ _ (rise_at hr i (k - 1) s y (by omega) hi hy) (not_lt ord_cut hn)
    · exact nomatch hi
  · rcases List.mem_append.1 hs with hs | hs
    · obtain ⟨i, hi⟩ := List.getElem?_of_mem hs
      obtain ⟨j, hj⟩ := List.getElem?_of_mem ht
      rw [List.getElem?_take] at hi
      rw [List.getElem?_drop] at hj
      split at hi
      · exact rise_at hr i (k + j) s t (by omega) hi hj
      · exact nomatch hi
    · obtain rfl := List.mem_singleton.1 hs
      have := h1 t ht; omega
theorem mem_put (l : List S) (x : S) (k : Nat) (t : S) : t ∈ l.take k ++ [x] ++ l.drop k ↔ t = x ∨ t ∈ l := by
  have e : t ∈ l ↔ t ∈ l.take k ∨ t ∈ l.drop k := by rw [← List.mem_append, List.take_append_drop]
  simp only [List.mem_append, List.mem_singleton, e]
  constructor
  · rintro ((h | h) | h)
    · exact .inr (.inl h)
    · exact .inl h
    · exact .inr (.inr h)
  · rintro (h | h | h)
    · exact .inl (.inr h)
    · exact .inl (.inl h)
    · exact .inr h

/-- One more, joined from the left. -/
def stepR (out : List S) (x : S) : List S := match out.getLast? with
  | none => [x]
  | some t => if cmpC t.2 x.1 < 0 then out ++ [x] else if cmpC t.2 x.2 < 0 then out.dropLast ++ [(t.1, x.2)] else out
theorem stepR_last (pre : List S) (t x : S) : stepR (pre ++ [t]) x = if cmpC t.2 x.1 < 0 then pre ++ [t] ++ [x] else if cmpC t.2 x.2 < 0 then pre ++ [(t.1, x.2)] else pre ++ [t] := by
  unfold stepR
  rw [List.getLast?_append]
  simp
theorem fold_merge : ∀ (l : List S) (pre : List S) (a b : C), cmpC a b < 0 → (∀ s ∈ l, cmpC s.1 s.2 < 0) → l.foldl stepR (pre ++ [(a, b)]) = pre ++ merge cmpC a b l
  | [], pre, a, b, h, _ => by
    show pre ++ [(a, b)] = pre ++ only cmpC a b
    unfold only; rw [if_pos h]
  | s :: r, pre, a, b, h, hne => by
    have hs := hne s (by simp)
    have hr : ∀ t ∈ r, cmpC t.1 t.2 < 0 := fun t ht => hne t (by simp [ht])
    rw [List.foldl_cons, stepR_last]
    unfold merge
    by_cases h1 : cmpC b s.1 < 0
    · rw [if_pos h1, if_pos h1]
      have h2 : later cmpC b s.2 = s.2 := if_pos (lt_trans ord_cut h1 hs)
      have := fold_merge r (pre ++ [(a, b)]) s.1 s.2 hs hr
      rw [h2]
      unfold only
      rw [if_pos h, this, List.append_assoc]
    · rw [if_neg h1, if_neg h1]
      by_cases h2 : cmpC b s.2 < 0
      · have h3 : later cmpC b s.2 = s.2 := if_pos h2
        rw [if_pos h2, h3]
        exact fold_merge r pre a s.2 (lt_trans ord_cut h h2) hr
      · have h3 : later cmpC b s.2 = b := if_neg h2
        rw [if_neg h2, h3]
        exact fold_merge r pre a b h hr
theorem fold_join : ∀ (l : List S), (∀ s ∈ l, cmpC s.1 s.2 < 0) → l.foldl stepR [] = join cmpC l
  | [], _ => rfl
  | s :: r, hne => by
    have hs := hne s (by simp)
    rw [List.foldl_cons]
    have h := fold_merge r [] s.1 s.2 hs fun t ht => hne t (by simp [ht])
    rw [List.nil_append, List.nil_append] at h
    show r.foldl stepR [s] = merge cmpC s.1 s.2 (s :: r)
    have e : merge cmpC s.1 s.2 (s :: r) = merge cmpC s.1 s.2 r := by
      show (if cmpC s.2 s.1 < 0 then only cmpC s.1 s.2 ++ merge cmpC s.1 (later cmpC s.2 s.2) r else merge cmpC s.1 (later cmpC s.2 s.2) r) = _
      have h1 : ¬ cmpC s.2 s.1 < 0 := by have := ord_cut.anti s.1 s.2; omega
      have h2 : later cmpC s.2 s.2 = s.2 := if_neg (lt_ne ord_cut _)
      rw [if_neg h1, h2]
    rw [e]; exact h
theorem fold_nrm {l d : List S} (hr : Rise cmpC d) (hm : ∀ t, t ∈ d ↔ t ∈ l ∧ cmpC t.1 t.2 < 0) : d.foldl stepR [] = nrm l := by
  rw [fold_join d fun s hs => ((hm s).1 hs).2]
  refine nrm_uniq (join_nm ord_cut hr) fun x => (join_in ord_cut hr x).trans ⟨?_, ?_⟩
  · rintro ⟨s, hs, h⟩; exact ⟨s, ((hm s).1 hs).1, h⟩
  · rintro ⟨s, hs, h⟩; exact ⟨s, (hm s).2 ⟨hs, ord_cut.le_lt _ _ _ h.1 h.2⟩, h⟩

/-- What lies between, empty ones too, up to one that has no end. -/
def notR (a : C) : List S → List S
  | [] => [(a, none)]
  | s :: l => (a, s.1) :: (match s.2 with | none => [] | some p => notR (some p) l)
theorem normed_open {s : S} {l : List S} (h : Normed (s :: l)) (he : s.2 = none) : l = [] := by
  cases l with
  | nil => rfl
  | cons u l =>
    have h1 := h.2.1 u (by simp)
    rw [he] at h1
    have := ord_cut.anti none u.1
    have := le_end u.1
    omega
theorem notR_in : ∀ (l : List S) (a x : C), Normed l → (In cmpC (notR a l) x ↔ In cmpC (gaps cmpC none a l) x)
  | [], a, x, _ => by
    show In cmpC [(a, none)] x ↔ In cmpC (only cmpC a none) x
    rw [in_cons, in_only ord_cut]
    exact ⟨fun h => h.resolve_right (in_nil x), .inl⟩
  | s :: l, a, x, hn => by
    show In cmpC ((a, s.1) :: (match s.2 with | none => [] | some p => notR (some p) l)) x ↔ In cmpC (only cmpC a s.1 ++ gaps cmpC none s.2 l) x
    rw [in_cons, in_app, in_only ord_cut]
    cases h : s.2 with
    | none =>
      obtain rfl := normed_open hn h
      have e : gaps cmpC none none ([] : List S) = [] := by decide
      rw [e]
    | some p => rw [notR_in l (some p) x hn.2.2]
theorem notR_nrm {l : List S} (hn : Normed l) : nrm (notR start l) = notL l :=
  (nrm_uniq (not_nm hn) fun x => (notR_in l start x hn).symm).symm
theorem notR_ok : ∀ (l : List S) (a : C), okL l → okC a → (∃ p, a = some p) → okL (notR a l)
  | [], a, _, ha, hp => by
    intro s hs
    obtain rfl : s = (a, none) := by simpa [notR] using hs
    exact ⟨hp, ha, ok_end⟩
  | t :: l, a, hl, ha, hp => by
    have ht := hl t (by simp)
    have hl2 : okL l := fun s hs => hl s (by simp [hs])
    intro s hs
    have hs : s ∈ (a, t.1) :: (match t.2 with | none => [] | some p => notR (some p) l) := hs
    rcases List.mem_cons.1 hs with rfl | hs
    · exact ⟨hp, ha, ht.2.1⟩
    · cases h2 : t.2 with
      | none => rw [h2] at hs; exact nomatch hs
      | some q =>
        rw [h2] at hs
        exact notR_ok l (some q) hl2 (h2 ▸ ht.2.2) ⟨q, rfl⟩ s hs
theorem notR_len : ∀ (l : List S) (a : C), (notR a l).length ≤ l.length + 1
  | [], _ => by simp [notR]
  | t :: l, a => by
    show ((a, t.1) :: (match t.2 with | none => [] | some p => notR (some p) l)).length ≤ _
    cases t.2 with
    | none => simp
    | some q => have := notR_len l (some q); simp only [List.length_cons]; omega
/-- Only the last of a normed row may have no end. -/
theorem open_last : ∀ {l : List S}, Normed l → ∀ (i : Nat) (s : S), l[i]? = some s → s.2 = none → i + 1 = l.length
  | [], _, i, s, h, _ => by simp at h
  | t :: l, hn, 0, s, h, he => by
    obtain rfl : t = s := by simpa using h
    cases l with
    | nil => rfl
    | cons u l =>
      have := hn.2.1 u (by simp)
      rw [he] at this
      have := ord_cut.anti none u.1
      have := le_end u.1
      omega
  | t :: l, hn, i + 1, s, h, he => by
    have := open_last hn.2.2 i s (by simpa using h) he
    simp only [List.length_cons]; omega
end Go.Sp
