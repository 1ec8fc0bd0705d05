/-
  Contracts of rightPart, wrongWord, words.
-/
import Derived.Test.YtninheehoabbbaaGreatDoorU2
import Derived.Deep.AppendLies
import Derived.Lib.SmallJoins
namespace Go.Proofs.YtninheehoabbbaaGreatDoor
set_option linter.unusedSimpArgs false
set_option linter.unusedVariables false
open Go.RowKit Go.Vr Go.Sort Go.Tx Go.Lib
attribute [local go_sem] setCellDrewN allocDrewN

def lettersL : Bs := [97, 98, 99, 100, 101, 102, 103, 104, 105, 106, 107, 108, 109, 110, 111, 112, 113, 114, 115, 116, 117, 118, 119, 120, 121, 122, 65, 66, 67, 68, 69, 70, 71, 72, 73, 74, 75, 76, 77, 78, 79, 80, 81, 82, 83, 84, 85, 86, 87, 88, 89, 90]
def digitsL : Bs := [48, 49, 50, 51, 52, 53, 54, 55, 56, 57]
def hexL : Bs := [97, 98, 99, 100, 101, 102]

theorem wd_all : ∀ n : Fin 256, inAny [lettersL, digitsL, [45]] (UInt8.ofNat n.val) = isWd (UInt8.ofNat n.val) := by decide +kernel
theorem dig_all : ∀ n : Fin 256, inAny [digitsL] (UInt8.ofNat n.val) = isDig (UInt8.ofNat n.val) := by decide +kernel
theorem hex_all : ∀ n : Fin 256, inAny [digitsL, hexL] (UInt8.ofNat n.val) = isHex (UInt8.ofNat n.val) := by decide +kernel
theorem byte_of (c : UInt8) : UInt8.ofNat c.toNat = c := by simp
theorem wd_is : inAny [lettersL, digitsL, [45]] = isWd := funext fun c => by have := wd_all ⟨c.toNat, c.toNat_lt⟩; simpa using this
theorem dig_is : inAny [digitsL] = isDig := funext fun c => by have := dig_all ⟨c.toNat, c.toNat_lt⟩; simpa using this
theorem hex_is : inAny [digitsL, hexL] = isHex := funext fun c => by have := hex_all ⟨c.toNat, c.toNat_lt⟩; simpa using this

theorem row_new (w : World) (xs : List Bs) (c : Nat) : SRow (w.alloc (.cells (xs.map encStr).toArray 9)) (some ⟨w.heap.size, 0, none⟩) xs.length c xs := by
  refine ⟨rfl, (fun e => nomatch e), fun x e j v hj => ?_⟩
  obtain rfl : ⟨w.heap.size, 0, none⟩ = x := by simpa using e
  have := World.news_of_block (w := w.alloc (.cells (xs.map encStr).toArray 9)) (B := w.heap.size) (cs := (xs.map encStr).toArray) (t := 9) (fr := (0, 0)) (heap_alloc_new w _)
  exact this j v (by simpa using hj)

set_option maxHeartbeats 400000 in
theorem rightPart_any (n : Int) (w : World) :
    Calls Tryz.prog 146 #[.int .i64 n] w fun e w' => e = .returned (.bool (partOk n)) ∧ w' = w := by
  by_cases h1 : 0 ≤ n
  · have d1 : decide (0 ≤ n) = true := by simpa using h1
    go_enter Tryz.func146, Tryz.ntmps146
    go_wp2
    go_ret
    exact ⟨ret_bool (by simp [partOk, h1]), rfl⟩
  · have d1 : decide (0 ≤ n) = false := by simpa using h1
    go_enter Tryz.func146, Tryz.ntmps146
    go_wp2
    go_ret
    exact ⟨ret_bool (by simp [partOk, d1]), rfl⟩

set_option maxHeartbeats 400000 in
theorem vwords_any (s : ByteArray) (w : World) (hs : s.size ≤ 5000) (he : Env w) :
    Calls Tryz.prog 85 #[.string s] w fun e w' => ∃ v, e = .returned v ∧ w'.ownsRow w.heap.size 9 1 v (words s.data.toList).length ((words s.data.toList).map encStr) ∧ Below w.heap.size w w' := by
  have HE := hide he
  clear he
  go_enter Tryz.func85, Tryz.ntmps85
  go_wp2_with fail
  refine (split_any s _ hs HE.out).mono ?_
  rintro e w1 ⟨v, rfl, h1, h2⟩
  go_wp2_with fail
  go_ret
  exact ⟨v, rfl, h1, h2⟩

set_option maxHeartbeats 1000000 in
set_option maxRecDepth 100000 in
theorem wrongWord_any (s : ByteArray) (w : World) (hs : s.size ≤ 100000) :
    Calls Tryz.prog 167 #[.string s] w fun e w' => e = .returned (.bool (!wordOk s.data.toList)) ∧ Below w.heap.size w w' := by
  by_cases h0 : s.size = 0
  · have he : s.toList.isEmpty = true := by rw [empty_eq]; simpa using h0
    have HF : Hid (wordOk s.data.toList = false) := wordOk_empty s h0
    clear h0
    go_enter Tryz.func167, Tryz.ntmps167
    go_wp2
    go_ret
    exact ⟨ret_bool (by rw [HF.out]; rfl), Below.refl _ _⟩
  have he : s.toList.isEmpty = false := by rw [empty_eq]; simpa using h0
  have hpos : 0 < s.size := by omega
  have HM : Hid (∀ W : World, Calls Tryz.prog 111 #[.string s, .slice (some ⟨W.heap.size, 0, none⟩) 3 3] (W.alloc (.cells #[.string ⟨#[97, 98, 99, 100, 101, 102, 103, 104, 105, 106, 107, 108, 109, 110, 111, 112, 113, 114, 115, 116, 117, 118, 119, 120, 121, 122, 65, 66, 67, 68, 69, 70, 71, 72, 73, 74, 75, 76, 77, 78, 79, 80, 81, 82, 83, 84, 85, 86, 87, 88, 89, 90]⟩, .string ⟨#[48, 49, 50, 51, 52, 53, 54, 55, 56, 57]⟩, .string ⟨#[45]⟩] 9)) fun e w' => e = .returned (.bool (s.data.toList.all isWd)) ∧ Below (W.heap.size + 1) (W.alloc (.cells #[.string ⟨#[97, 98, 99, 100, 101, 102, 103, 104, 105, 106, 107, 108, 109, 110, 111, 112, 113, 114, 115, 116, 117, 118, 119, 120, 121, 122, 65, 66, 67, 68, 69, 70, 71, 72, 73, 74, 75, 76, 77, 78, 79, 80, 81, 82, 83, 84, 85, 86, 87, 88, 89, 90]⟩, .string ⟨#[48, 49, 50, 51, 52, 53, 54, 55, 56, 57]⟩, .string ⟨#[45]⟩] 9)) w') := fun W => by
    have := made_any s W.heap.size 0 3 3 [lettersL, digitsL, [45]] _ hs (row_new W [lettersL, digitsL, [45]] 3) (by omega)
    rw [wd_is] at this
    simpa [lettersL, digitsL] using this
  have HM1 : Hid (∀ W : World, Calls Tryz.prog 111 #[.string s, .slice (some ⟨W.heap.size, 0, none⟩) 1 1] (W.alloc (.cells #[.string ⟨#[48, 49, 50, 51, 52, 53, 54, 55, 56, 57]⟩] 9)) fun e w' => e = .returned (.bool (s.data.toList.all isDig)) ∧ Below (W.heap.size + 1) (W.alloc (.cells #[.string ⟨#[48, 49, 50, 51, 52, 53, 54, 55, 56, 57]⟩] 9)) w') := fun W => by
    have := made_any s W.heap.size 0 1 1 [digitsL] _ hs (row_new W [digitsL] 1) (by omega)
    rw [dig_is] at this
    simpa [digitsL] using this
  cases hw : s.data.toList.all isWd with
  | false =>
    have HF : Hid (wordOk s.data.toList = false) := by show wordOk _ = false; unfold wordOk; rw [hw]; simp
    have HW := hide hw
    clear hw
    go_enter Tryz.func167, Tryz.ntmps167
    go_wp2_with fail
    refine (HM.out _).mono ?_
    rw [HW.out]
    rintro e w1 ⟨rfl, hb⟩
    go_wp2_with fail
    go_ret
    exact ⟨ret_bool (by rw [HF.out]; rfl), ((Below.refl _ _).alloc (Nat.le_refl _) _).trans (hb.mono (by omega))⟩
  | true =>
    have HW := hide hw
    have HX : Hid (wordOk s.data.toList = !(s.data.toList.all isDig && decide (1 < s.size) && ((((s[0]).toNat : Int)) == 48))) := by
      show wordOk _ = _
      unfold wordOk
      rw [hw, digs_eq, isEmpty_eq, decide_eq_false h0, head_eq s hpos, len_eq]
      have e0 : (some s[0] == some 48) = (((s[0]).toNat : Int) == 48) := by
        rw [Bool.eq_iff_iff]
        simp only [beq_iff_eq, Option.some.injEq]
        constructor
        · intro e; rw [e]; rfl
        · intro e; exact UInt8.toNat_inj.1 (by show _ = 48; omega)
      rw [e0]; simp [h0]
    clear hw
    by_cases h1 : 1 < s.size
    · have d1 : decide ((1 : Int) < (s.size : Int)) = true := by simp; omega
      cases hz : (((s[0]).toNat : Int) == 48) with
      | false =>
        have HF : Hid (wordOk s.data.toList = true) := by show wordOk _ = true; rw [HX.out, hz]; simp
        go_enter Tryz.func167, Tryz.ntmps167
        go_wp2_with fail
        refine (HM.out _).mono ?_
        rw [HW.out]
        rintro e w1 ⟨rfl, hb⟩
        go_wp2_with fail
        go_ret
        exact ⟨ret_bool (by rw [HF.out]; rfl), ((Below.refl _ _).alloc (Nat.le_refl _) _).trans (hb.mono (by omega))⟩
      | true =>
        have HF : Hid (wordOk s.data.toList = !(s.data.toList.all isDig)) := by show wordOk _ = _; rw [HX.out, hz, decide_eq_true h1]; simp
        go_enter Tryz.func167, Tryz.ntmps167
        go_wp2_with fail
        refine (HM.out _).mono ?_
        rw [HW.out]
        rintro e w1 ⟨rfl, hb⟩
        have hB1 : Below w.heap.size w w1 := ((Below.refl _ _).alloc (Nat.le_refl _) _).trans (hb.mono (by omega))
        go_wp2_with fail
        refine (HM1.out _).mono ?_
        rintro e w2 ⟨rfl, hb2⟩
        go_wp2_with fail
        go_ret
        exact ⟨ret_bool (by rw [HF.out]; simp), (hB1.alloc hB1.size _).trans (hb2.mono (by have := hB1.size; omega))⟩
    · have d1 : decide ((1 : Int) < (s.size : Int)) = false := by simp; omega
      have HF : Hid (wordOk s.data.toList = true) := by show wordOk _ = true; rw [HX.out, decide_eq_false h1]; simp
      go_enter Tryz.func167, Tryz.ntmps167
      go_wp2_with fail
      refine (HM.out _).mono ?_
      rw [HW.out]
      rintro e w1 ⟨rfl, hb⟩
      go_wp2_with fail
      go_ret
      exact ⟨ret_bool (by rw [HF.out]; rfl), ((Below.refl _ _).alloc (Nat.le_refl _) _).trans (hb.mono (by omega))⟩

theorem wrongWord_enters : ∀ args w, (callFunc 167 args).run Tryz.prog w = .ok (.enter 167 args) w := enters_of Tryz.func167 (by kernel_rfl) rfl

end Go.Proofs.YtninheehoabbbaaGreatDoor
