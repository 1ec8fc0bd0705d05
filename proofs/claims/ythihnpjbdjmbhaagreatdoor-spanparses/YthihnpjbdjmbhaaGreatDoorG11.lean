/-
  slices.IndexFunc, slices.ContainsFunc at texts, whatever function is handed in that leaves what was there as it was.
  Contracts of made and its closure.
  Contracts of rightPart, wrongWord, words.
  Contracts of rightPre, Right, number, dotted.
  Contracts of final, cmp.Or, cmpWord.
-/
import Derived.Test.YthihnpjbdjmbhaaGreatDoorG08
import Derived.Test.YthihnpjbdjmbhaaGreatDoorG10
import Derived.Deep.AppendLies
import Derived.Lib.SmallJoins

namespace Go.Proofs.YthihnpjbdjmbhaaGreatDoor
set_option linter.unusedSimpArgs false
set_option linter.unusedVariables false
open Go.RowKit Go.Vr Go.Sort Go.Tx Go.Lib
attribute [local go_sem] setCellDrewN allocDrewN

theorem take_getD (ws : List Bs) (k : Nat) (h : k < ws.length) : ws.take (k + 1) = ws.take k ++ [ws.getD k []] := by
  rw [List.take_add_one]
  simp [List.getD, List.getElem?_eq_getElem h]

set_option maxHeartbeats 2000000 in
set_option maxRecDepth 100000 in
theorem indexF_any (g : Nat) (lb : Array Value) (eg : ∀ args w, (callFunc g args).run Tryz.prog w = .ok (.enter g args) w) (p : Bs → Bool) (b off n cap : Nat) (ws : List Bs) (w : World) (hr : SRow w (some ⟨b, off, none⟩) n cap ws) (hn : n ≤ 10000)
    (hp : ∀ W x, x ∈ ws → Below w.heap.size w W → Calls Tryz.prog g (#[.string (str x)] ++ lb) W fun e w' => e = .returned (.bool (p x)) ∧ Below W.heap.size W w') :
    Calls Tryz.prog 155 #[.slice (some ⟨b, off, none⟩) n cap, .func (.func g) #[] lb] w fun e w' => ∃ k : Int, e = .returned (.int .i64 k) ∧ decide (0 ≤ k) = ws.any p ∧ Below w.heap.size w w' := by
  have hl := hr.n
  have HP : Hid _ := hp
  have HR : Hid _ := hr
  clear hp hr
  go_enter Tryz.func155, Tryz.ntmps155
  go_wp2_with fail
  go_loopw [5, 8] (fun _ i wr => ∃ k : Nat, k ≤ n ∧ i = .int .i64 k ∧ Hid ((ws.take k).any p = false) ∧ Below w.heap.size w wr) (fun _ i _ => n - (RowKit.intOf i).toNat)
  case atStart => exact ⟨0, by omega, rfl, rfl, Below.refl _ _⟩
  case round =>
    obtain ⟨k, hk, rfl, HA, hB⟩ := hrel
    by_cases hlt : k < n
    · obtain ⟨b2, off2, e, hc⟩ := HR.out.at_ (by omega)
      simp only [Option.some.injEq, Addr.mk.injEq, and_true] at e
      obtain ⟨rfl, rfl⟩ := e
      have hcell := cellLater hB (hc k hlt)
      have hm := getD_mem ws k (by omega)
      have HT : Hid _ := take_getD ws k (by omega)
      clear hc
      generalize ws.getD k [] = x at *
      have hcall := HP.out wr x hm hB
      have i1 : (0 : Int) ≤ (k : Int) := by omega
      have i2 : (k : Int) < (n : Int) := by omega
      cases hq : p x with
      | true =>
        have HF : Hid (ws.any p = true) := by
          show List.any _ _ = true
          rw [List.any_eq_true]; exact ⟨x, hm, hq⟩
        rw [hq] at hcall
        have HC := hide hcall
        clear hcall hq
        go_wp2_with fail
        refine HC.out.mono ?_
        rintro e w' ⟨rfl, hb⟩
        go_wp2_with fail
        go_ret
        exact ⟨_, rfl, by rw [HF.out]; simp, step hB hb⟩
      | false =>
        have HF : Hid ((ws.take (k + 1)).any p = false) := by
          show List.any _ _ = false
          rw [HT.out, List.any_append, HA.out]; simp [hq]
        rw [hq] at hcall
        have HC := hide hcall
        clear hcall hq
        go_wp2_with fail
        refine HC.out.mono ?_
        rintro e w' ⟨rfl, hb⟩
        go_wp2_with fail
        go_roundw
        case rel => exact ⟨k + 1, by omega, by go_num, HF, step hB hb⟩
        case measure => simp [RowKit.intOf]; omega
    · have hd : decide ((k : Int) < (n : Int)) = false := by simp; omega
      have HF : Hid (ws.any p = false) := by
        have := HA.out
        rw [List.take_of_length_le (by omega)] at this
        exact this
      go_wp2_with fail
      go_ret
      exact ⟨_, rfl, by rw [HF.out]; decide, hB⟩

set_option maxHeartbeats 2000000 in
set_option maxRecDepth 100000 in
theorem containsF_any (g : Nat) (lb : Array Value) (eg : ∀ args w, (callFunc g args).run Tryz.prog w = .ok (.enter g args) w) (p : Bs → Bool) (b off n cap : Nat) (ws : List Bs) (w : World) (hr : SRow w (some ⟨b, off, none⟩) n cap ws) (hn : n ≤ 10000)
    (hp : ∀ W x, x ∈ ws → Below w.heap.size w W → Calls Tryz.prog g (#[.string (str x)] ++ lb) W fun e w' => e = .returned (.bool (p x)) ∧ Below W.heap.size W w') :
    Calls Tryz.prog 131 #[.slice (some ⟨b, off, none⟩) n cap, .func (.func g) #[] lb] w fun e w' => e = .returned (.bool (ws.any p)) ∧ Below w.heap.size w w' := by
  have HI := hide <| indexF_any g lb eg p b off n cap ws w hr hn hp
  clear hp hr
  go_enter Tryz.func131, Tryz.ntmps131
  go_wp2_with fail
  refine HI.out.mono ?_
  rintro e w1 ⟨k, rfl, hk, hb⟩
  have HK : Hid _ := hk
  clear hk
  go_wp2_with fail
  go_ret
  exact ⟨ret_bool HK.out, hb⟩

end Go.Proofs.YthihnpjbdjmbhaaGreatDoor

namespace Go.Proofs.YthihnpjbdjmbhaaGreatDoor
set_option linter.unusedSimpArgs false
set_option linter.unusedVariables false
open Go.RowKit Go.Vr Go.Sort Go.Tx Go.Lib
attribute [local go_sem] setCellDrewN allocDrewN

/-- Is a byte in a set? in one of several? -/
def inS (set : Bs) (c : UInt8) : Bool := decide (0 ≤ indexByte set c)
def inAny (sets : List Bs) (c : UInt8) : Bool := sets.any fun t => inS t c

set_option maxHeartbeats 1000000 in
set_option maxRecDepth 100000 in
theorem made1_any (set s : ByteArray) (bs bi k : Nat) (w : World) (h1 : w.cell? ⟨bs, 0, none⟩ = some (.string s)) (h2 : w.cell? ⟨bi, 0, none⟩ = some (.int .i64 k)) (hk : k < s.size) :
    Calls Tryz.prog 130 #[.string set, .pointer (some ⟨bs, 0, none⟩), .pointer (some ⟨bi, 0, none⟩)] w fun e w' => e = .returned (.bool (inS set.data.toList s[k])) ∧ w' = w := by
  have i1 : (0 : Int) ≤ (k : Int) := by omega
  have i2 : (k : Int) < (s.size : Int) := by omega
  go_enter Tryz.func130, Tryz.ntmps130
  go_wp2_with fail
  refine (indexByte_any _ _ _).mono ?_
  rintro e w1 ⟨rfl, rfl⟩
  go_wp2_with fail
  go_ret
  exact ⟨ret_bool (rfl), rfl⟩

theorem made1_enters : ∀ args w, (callFunc 130 args).run Tryz.prog w = .ok (.enter 130 args) w := enters_of Tryz.func130 (by kernel_rfl) rfl

set_option maxHeartbeats 2000000 in
set_option maxRecDepth 100000 in
theorem made_any (s : ByteArray) (b off n cap : Nat) (sets : List Bs) (w : World) (hs : s.size ≤ 100000) (hr : SRow w (some ⟨b, off, none⟩) n cap sets) (hn : n ≤ 10000) :
    Calls Tryz.prog 111 #[.string s, .slice (some ⟨b, off, none⟩) n cap] w fun e w' => e = .returned (.bool (s.data.toList.all (inAny sets))) ∧ Below w.heap.size w w' := by
  have HR := hide hr
  clear hr
  have hB0 : Below w.heap.size w (w.alloc (.cells #[.string s] 9)) := (Below.refl _ _).alloc (Nat.le_refl _) _
  go_enter Tryz.func111, Tryz.ntmps111
  go_wp2_with fail
  go_loopw [5, 6, 9] (fun _ _ i wr => ∃ k : Nat, k ≤ s.size ∧ i = .int .i64 k ∧ Hid ((s.data.toList.take k).all (inAny sets) = true) ∧ Below w.heap.size w wr ∧ w.heap.size < wr.heap.size ∧ wr.cell? ⟨w.heap.size, 0, none⟩ = some (.string s)) (fun _ _ i _ => s.size - (RowKit.intOf i).toNat)
  case atStart => exact ⟨0, by omega, rfl, rfl, hB0, by simp, by simp [go_sem]⟩
  case round =>
    obtain ⟨k, hk, rfl, HA, hB, hz, hc⟩ := hrel
    by_cases hlt : k < s.size
    · have hd : decide ((k : Int) < (s.size : Int)) = true := by simp; omega
      have hB1 : Below w.heap.size w (wr.alloc (.cells #[.int .i64 k] 3)) := hB.alloc hB.size _
      have c1 : (wr.alloc (.cells #[.int .i64 k] 3)).cell? ⟨w.heap.size, 0, none⟩ = some (.string s) := cellLater ((Below.refl _ wr).alloc (Nat.le_refl _) _) hc
      have c2 : (wr.alloc (.cells #[.int .i64 k] 3)).cell? ⟨wr.heap.size, 0, none⟩ = some (.int .i64 k) := by simp [go_sem]
      have HC := hide (containsF_any 130 #[.pointer (some ⟨w.heap.size, 0, none⟩), .pointer (some ⟨wr.heap.size, 0, none⟩)] made1_enters (fun t => inS t s[k]) b off n cap sets (wr.alloc (.cells #[.int .i64 k] 3)) (HR.out.later hB1) hn
        (fun W x _ hb => (made1_any (str x) s w.heap.size wr.heap.size k W (cellLater hb c1) (cellLater hb c2) hlt).mono (fun e w' h => ⟨h.1, h.2 ▸ Below.refl _ _⟩)))
      have HQ : Hid ((sets.any fun t => inS t s[k]) = inAny sets s[k]) := rfl
      cases hq : inAny sets s[k] with
      | true =>
        have HT : Hid ((s.data.toList.take (k + 1)).all (inAny sets) = true) := by
          show List.all _ _ = true
          rw [all_take_succ _ s k hlt, HA.out, hq]; rfl
        have HQ2 := hide hq
        clear hq c1 c2
        go_wp2_with fail
        refine HC.out.mono ?_
        rw [HQ.out, HQ2.out]
        rintro e w1 ⟨rfl, hb⟩
        have hB2 : Below w.heap.size w w1 := hB1.trans (hb.mono hB1.size)
        have hz2 : w.heap.size < w1.heap.size := by have := hb.size; simp at this; omega
        have c3 : w1.cell? ⟨w.heap.size, 0, none⟩ = some (.string s) := cellLater (((Below.refl _ wr).alloc (Nat.le_refl _) _).trans (hb.mono (by simp))) hc
        go_wp2_with fail
        go_roundw
        case rel => exact ⟨k + 1, by omega, by go_num, HT, hB2, hz2, c3⟩
        case measure => simp [RowKit.intOf]; omega
      | false =>
        have HF : Hid (s.data.toList.all (inAny sets) = false) := all_not _ s k hlt hq
        have HQ2 := hide hq
        clear hq c1 c2
        go_wp2_with fail
        refine HC.out.mono ?_
        rw [HQ.out, HQ2.out]
        rintro e w1 ⟨rfl, hb⟩
        have hB2 : Below w.heap.size w w1 := hB1.trans (hb.mono hB1.size)
        go_wp2_with fail
        go_ret
        exact ⟨ret_bool HF.out.symm, hB2⟩
    · have hd : decide ((k : Int) < (s.size : Int)) = false := by simp; omega
      have HF : Hid (s.data.toList.all (inAny sets) = true) := by rw [← take_all s k (by omega)]; exact HA
      go_wp2_with fail
      go_ret
      exact ⟨ret_bool HF.out.symm, hB⟩

end Go.Proofs.YthihnpjbdjmbhaaGreatDoor

namespace Go.Proofs.YthihnpjbdjmbhaaGreatDoor
set_option linter.unusedSimpArgs false
set_option linter.unusedVariables false
open Go.RowKit Go.Vr Go.Sort Go.Tx Go.Lib
attribute [local go_sem] setCellDrewN allocDrewN

def lettersL : Bs := [97, 98, 99, 100, 101, 102, 103, 104, 105, 106, 107, 108, 109, 110, 111, 112, 113, 114, 115, 116, 117, 118, 119, 120, 121, 122, 65, 66, 67, 68, 69, 70, 71, 72, 73, 74, 75, 76, 77, 78, 79, 80, 81, 82, 83, 84, 85, 86, 87, 88, 89, 90]
def digitsL : Bs := [48, 49, 50, 51, 52, 53, 54, 55, 56, 57]
def hexL : Bs := [97, 98, 99, 100, 101, 102]

theorem wd_all : ∀ n : Fin 256, inAny [lettersL, digitsL, [45]] (UInt8.ofNat n.val) = isWd (UInt8.ofNat n.val) := by decide +kernel
theorem dig_all : ∀ n : Fin 256, inAny [digitsL] (UInt8.ofNat n.val) = isDig (UInt8.ofNat n.val) := by decide +kernel
theorem hex_all : ∀ n : Fin 256, inAny [digitsL, hexL] (UInt8.ofNat n.val) = isHex (UInt8.ofNat n.val) := by decide +kernel
theorem byte_of (c : UInt8) : UInt8.ofNat c.toNat = c := by simp
theorem wd_is : inAny [lettersL, digitsL, [45]] = isWd := funext fun c => by have := wd_all ⟨c.toNat, c.toNat_lt⟩; simpa using this
theorem dig_is : inAny [digitsL] = isDig := funext fun c => by have := dig_all ⟨c.toNat, c.toNat_lt⟩; simpa using this
theorem hex_is : inAny [digitsL, hexL] = isHex := funext fun c => by have := hex_all ⟨c.toNat, c.toNat_lt⟩; simpa using this

theorem row_new (w : World) (xs : List Bs) (c : Nat) : SRow (w.alloc (.cells (xs.map encStr).toArray 9)) (some ⟨w.heap.size, 0, none⟩) xs.length c xs := by
  refine ⟨rfl, (fun e => nomatch e), fun x e j v hj => ?_⟩
  obtain rfl : ⟨w.heap.size, 0, none⟩ = x := by simpa using e
  have := World.news_of_block (w := w.alloc (.cells (xs.map encStr).toArray 9)) (B := w.heap.size) (cs := (xs.map encStr).toArray) (t := 9) (fr := (0, 0)) (heap_alloc_new w _)
  exact this j v (by simpa using hj)

set_option maxHeartbeats 400000 in
theorem rightPart_any (n : Int) (w : World) :
    Calls Tryz.prog 146 #[.int .i64 n] w fun e w' => e = .returned (.bool (partOk n)) ∧ w' = w := by
  by_cases h1 : 0 ≤ n
  · have d1 : decide (0 ≤ n) = true := by simpa using h1
    go_enter Tryz.func146, Tryz.ntmps146
    go_wp2
    go_ret
    exact ⟨ret_bool (by simp [partOk, h1]), rfl⟩
  · have d1 : decide (0 ≤ n) = false := by simpa using h1
    go_enter Tryz.func146, Tryz.ntmps146
    go_wp2
    go_ret
    exact ⟨ret_bool (by simp [partOk, d1]), rfl⟩

set_option maxHeartbeats 400000 in
theorem vwords_any (s : ByteArray) (w : World) (hs : s.size ≤ 5000) (he : Env w) :
    Calls Tryz.prog 85 #[.string s] w fun e w' => ∃ v, e = .returned v ∧ w'.ownsRow w.heap.size 9 1 v (words s.data.toList).length ((words s.data.toList).map encStr) ∧ Below w.heap.size w w' := by
  have HE := hide he
  clear he
  go_enter Tryz.func85, Tryz.ntmps85
  go_wp2_with fail
  refine (split_any s _ hs HE.out).mono ?_
  rintro e w1 ⟨v, rfl, h1, h2⟩
  go_wp2_with fail
  go_ret
  exact ⟨v, rfl, h1, h2⟩

set_option maxHeartbeats 1000000 in
set_option maxRecDepth 100000 in
theorem wrongWord_any (s : ByteArray) (w : World) (hs : s.size ≤ 100000) :
    Calls Tryz.prog 167 #[.string s] w fun e w' => e = .returned (.bool (!wordOk s.data.toList)) ∧ Below w.heap.size w w' := by
  by_cases h0 : s.size = 0
  · have he : s.toList.isEmpty = true := by rw [empty_eq]; simpa using h0
    have HF : Hid (wordOk s.data.toList = false) := wordOk_empty s h0
    clear h0
    go_enter Tryz.func167, Tryz.ntmps167
    go_wp2
    go_ret
    exact ⟨ret_bool (by rw [HF.out]; rfl), Below.refl _ _⟩
  have he : s.toList.isEmpty = false := by rw [empty_eq]; simpa using h0
  have hpos : 0 < s.size := by omega
  have HM : Hid (∀ W : World, Calls Tryz.prog 111 #[.string s, .slice (some ⟨W.heap.size, 0, none⟩) 3 3] (W.alloc (.cells #[.string ⟨#[97, 98, 99, 100, 101, 102, 103, 104, 105, 106, 107, 108, 109, 110, 111, 112, 113, 114, 115, 116, 117, 118, 119, 120, 121, 122, 65, 66, 67, 68, 69, 70, 71, 72, 73, 74, 75, 76, 77, 78, 79, 80, 81, 82, 83, 84, 85, 86, 87, 88, 89, 90]⟩, .string ⟨#[48, 49, 50, 51, 52, 53, 54, 55, 56, 57]⟩, .string ⟨#[45]⟩] 9)) fun e w' => e = .returned (.bool (s.data.toList.all isWd)) ∧ Below (W.heap.size + 1) (W.alloc (.cells #[.string ⟨#[97, 98, 99, 100, 101, 102, 103, 104, 105, 106, 107, 108, 109, 110, 111, 112, 113, 114, 115, 116, 117, 118, 119, 120, 121, 122, 65, 66, 67, 68, 69, 70, 71, 72, 73, 74, 75, 76, 77, 78, 79, 80, 81, 82, 83, 84, 85, 86, 87, 88, 89, 90]⟩, .string ⟨#[48, 49, 50, 51, 52, 53, 54, 55, 56, 57]⟩, .string ⟨#[45]⟩] 9)) w') := fun W => by
    have := made_any s W.heap.size 0 3 3 [lettersL, digitsL, [45]] _ hs (row_new W [lettersL, digitsL, [45]] 3) (by omega)
    rw [wd_is] at this
    simpa [lettersL, digitsL] using this
  have HM1 : Hid (∀ W : World, Calls Tryz.prog 111 #[.string s, .slice (some ⟨W.heap.size, 0, none⟩) 1 1] (W.alloc (.cells #[.string ⟨#[48, 49, 50, 51, 52, 53, 54, 55, 56, 57]⟩] 9)) fun e w' => e = .returned (.bool (s.data.toList.all isDig)) ∧ Below (W.heap.size + 1) (W.alloc (.cells #[.string ⟨#[48, 49, 50, 51, 52, 53, 54, 55, 56, 57]⟩] 9)) w') := fun W => by
    have := made_any s W.heap.size 0 1 1 [digitsL] _ hs (row_new W [digitsL] 1) (by omega)
    rw [dig_is] at this
    simpa [digitsL] using this
  cases hw : s.data.toList.all isWd with
  | false =>
    have HF : Hid (wordOk s.data.toList = false) := by show wordOk _ = false; unfold wordOk; rw [hw]; simp
    have HW := hide hw
    clear hw
    go_enter Tryz.func167, Tryz.ntmps167
    go_wp2_with fail
    refine (HM.out _).mono ?_
    rw [HW.out]
    rintro e w1 ⟨rfl, hb⟩
    go_wp2_with fail
    go_ret
    exact ⟨ret_bool (by rw [HF.out]; rfl), ((Below.refl _ _).alloc (Nat.le_refl _) _).trans (hb.mono (by omega))⟩
  | true =>
    have HW := hide hw
    have HX : Hid (wordOk s.data.toList = !(s.data.toList.all isDig && decide (1 < s.size) && ((((s[0]).toNat : Int)) == 48))) := by
      show wordOk _ = _
      unfold wordOk
      rw [hw, digs_eq, isEmpty_eq, decide_eq_false h0, head_eq s hpos, len_eq]
      have e0 : (some s[0] == some 48) = (((s[0]).toNat : Int) == 48) := by
        rw [Bool.eq_iff_iff]
        simp only [beq_iff_eq, Option.some.injEq]
        constructor
        · intro e; rw [e]; rfl
        · intro e; exact UInt8.toNat_inj.1 (by show _ = 48; omega)
      rw [e0]; simp [h0]
    clear hw
    by_cases h1 : 1 < s.size
    · have d1 : decide ((1 : Int) < (s.size : Int)) = true := by simp; omega
      cases hz : (((s[0]).toNat : Int) == 48) with
      | false =>
        have HF : Hid (wordOk s.data.toList = true) := by show wordOk _ = true; rw [HX.out, hz]; simp
        go_enter Tryz.func167, Tryz.ntmps167
        go_wp2_with fail
        refine (HM.out _).mono ?_
        rw [HW.out]
        rintro e w1 ⟨rfl, hb⟩
        go_wp2_with fail
        go_ret
        exact ⟨ret_bool (by rw [HF.out]; rfl), ((Below.refl _ _).alloc (Nat.le_refl _) _).trans (hb.mono (by omega))⟩
      | true =>
        have HF : Hid (wordOk s.data.toList = !(s.data.toList.all isDig)) := by show wordOk _ = _; rw [HX.out, hz, decide_eq_true h1]; simp
        go_enter Tryz.func167, Tryz.ntmps167
        go_wp2_with fail
        refine (HM.out _).mono ?_
        rw [HW.out]
        rintro e w1 ⟨rfl, hb⟩
        have hB1 : Below w.heap.size w w1 := ((Below.refl _ _).alloc (Nat.le_refl _) _).trans (hb.mono (by omega))
        go_wp2_with fail
        refine (HM1.out _).mono ?_
        rintro e w2 ⟨rfl, hb2⟩
        go_wp2_with fail
        go_ret
        exact ⟨ret_bool (by rw [HF.out]; simp), (hB1.alloc hB1.size _).trans (hb2.mono (by have := hB1.size; omega))⟩
    · have d1 : decide ((1 : Int) < (s.size : Int)) = false := by simp; omega
      have HF : Hid (wordOk s.data.toList = true) := by show wordOk _ = true; rw [HX.out, decide_eq_false h1]; simp
      go_enter Tryz.func167, Tryz.ntmps167
      go_wp2_with fail
      refine (HM.out _).mono ?_
      rw [HW.out]
      rintro e w1 ⟨rfl, hb⟩
      go_wp2_with fail
      go_ret
      exact ⟨ret_bool (by rw [HF.out]; rfl), ((Below.refl _ _).alloc (Nat.le_refl _) _).trans (hb.mono (by omega))⟩

theorem wrongWord_enters : ∀ args w, (callFunc 167 args).run Tryz.prog w = .ok (.enter 167 args) w := enters_of Tryz.func167 (by kernel_rfl) rfl

end Go.Proofs.YthihnpjbdjmbhaaGreatDoor

namespace Go.Proofs.YthihnpjbdjmbhaaGreatDoor
set_option linter.unusedSimpArgs false
set_option linter.unusedVariables false
open Go.RowKit Go.Vr Go.Sort Go.Tx Go.Lib
attribute [local go_sem] setCellDrewN allocDrewN

theorem preOk_eq (p : ByteArray) : preOk p.data.toList = (decide (p.size ≤ 40) && (decide (p.size = 0) || (words p.data.toList).all wordOk)) := by unfold preOk; rw [len_eq, isEmpty_eq]
theorem any_not (ws : List Bs) : (ws.any fun x => !wordOk x) = !(ws.all wordOk) := by
  induction ws with
  | nil => rfl
  | cons x ws ih => simp only [List.any_cons, List.all_cons, ih, Bool.not_and]

set_option maxHeartbeats 1000000 in
set_option maxRecDepth 100000 in
theorem rightPre_any (p : ByteArray) (w : World) (hs : p.size ≤ maxLen) (he : Env w) :
    Calls Tryz.prog 147 #[.string p] w fun e w' => e = .returned (.bool (preOk p.data.toList)) ∧ Below w.heap.size w w' := by
  have HE := hide he
  clear he
  unfold maxLen at hs
  by_cases h0 : p.size = 0
  · have he : p.toList.isEmpty = true := by rw [empty_eq]; simpa using h0
    have HF : Hid (preOk p.data.toList = true) := by show preOk _ = true; rw [preOk_eq, h0]; rfl
    clear h0
    go_enter Tryz.func147, Tryz.ntmps147
    go_wp2
    go_ret
    exact ⟨ret_bool HF.out.symm, Below.refl _ _⟩
  have he : p.toList.isEmpty = false := by rw [empty_eq]; simpa using h0
  by_cases h4 : p.size ≤ 40
  · have d4 : decide ((p.size : Int) ≤ 40) = true := by simp; omega
    have HF : Hid (preOk p.data.toList = (words p.data.toList).all wordOk) := by show preOk _ = _; rw [preOk_eq, decide_eq_true h4, decide_eq_false h0]; rfl
    have hcn := words_count p.data.toList
    have hwl := words_len p.data.toList
    rw [len_eq] at hcn hwl
    have hne := words_ne p.data.toList
    clear h0
    go_enter Tryz.func147, Tryz.ntmps147
    go_wp2_with fail
    refine (vwords_any p _ (by omega) HE.out).mono ?_
    rintro e w1 ⟨v, rfl, hown, hB⟩
    generalize words p.data.toList = ws at *
    obtain ⟨g, cap, rfl, hg, hnc, hcm, hcell⟩ := own_at hown (List.length_pos_iff.2 hne)
    have HC := hide (containsF_any 167 #[] wrongWord_enters (fun x => !wordOk x) g 0 ws.length cap ws w1 (own_row hown) (by omega) (fun W x hx hb => by
      have := wrongWord_any (str x) W (by have := hwl x hx; rw [Tx.str_size]; omega)
      rw [str_list] at this
      simpa using this))
    clear hcell hown
    go_wp2_with fail
    refine HC.out.mono ?_
    rw [any_not]
    rintro e w2 ⟨rfl, hb⟩
    go_wp2_with fail
    go_ret
    exact ⟨ret_bool (by rw [HF.out]), step hB hb⟩
  · have d4 : decide ((p.size : Int) ≤ 40) = false := by simp; omega
    have HF : Hid (preOk p.data.toList = false) := by show preOk _ = _; rw [preOk_eq, decide_eq_false h4]; rfl
    go_enter Tryz.func147, Tryz.ntmps147
    go_wp2_with fail
    go_ret
    exact ⟨ret_bool HF.out.symm, Below.refl _ _⟩

set_option maxHeartbeats 1000000 in
set_option maxRecDepth 100000 in
theorem right_any (v : V) (w : World) (hs : v.p.size ≤ maxLen) (he : Env w) :
    Calls Tryz.prog 125 #[val v] w fun e w' => e = .returned (.bool v.ok) ∧ Below w.heap.size w w' := by
  obtain ⟨a, b, c, p⟩ := v
  simp only at hs
  have hB0 : Below w.heap.size w (w.alloc (.cells #[.int .i64 a, .int .i64 b, .int .i64 c, .string p] 37)) := (Below.refl _ _).alloc (Nat.le_refl _) _
  have HE : Hid (Env (w.alloc (.cells #[.int .i64 a, .int .i64 b, .int .i64 c, .string p] 37))) := he.later hB0
  have HV : Hid (V.ok ⟨a, b, c, p⟩ = (partOk a && partOk b && partOk c && preOk p.data.toList)) := rfl
  clear he
  cases h1 : partOk a with
  | false =>
    have H1 := hide h1
    go_enter Tryz.func125, Tryz.ntmps125
    go_wp2_with fail
    refine (rightPart_any _ _).mono ?_
    rintro e w1 ⟨rfl, rfl⟩
    go_wp2_with fail
    go_ret
    exact ⟨ret_bool (by rw [HV.out, H1.out]; rfl), hB0⟩
  | true =>
    cases h2 : partOk b with
    | false =>
      have H1 := hide h1
      have H2 := hide h2
      go_enter Tryz.func125, Tryz.ntmps125
      go_wp2_with fail
      refine (rightPart_any _ _).mono ?_
      rintro e w1 ⟨rfl, rfl⟩
      go_wp2_with fail
      refine (rightPart_any _ _).mono ?_
      rintro e w1 ⟨rfl, rfl⟩
      go_wp2_with fail
      go_ret
      exact ⟨ret_bool (by rw [HV.out, H1.out, H2.out]; rfl), hB0⟩
    | true =>
      cases h3 : partOk c with
      | false =>
        have H1 := hide h1
        have H2 := hide h2
        have H3 := hide h3
        go_enter Tryz.func125, Tryz.ntmps125
        go_wp2_with fail
        refine (rightPart_any _ _).mono ?_
        rintro e w1 ⟨rfl, rfl⟩
        go_wp2_with fail
        refine (rightPart_any _ _).mono ?_
        rintro e w1 ⟨rfl, rfl⟩
        go_wp2_with fail
        refine (rightPart_any _ _).mono ?_
        rintro e w1 ⟨rfl, rfl⟩
        go_wp2_with fail
        go_ret
        exact ⟨ret_bool (by rw [HV.out, H1.out, H2.out, H3.out]; rfl), hB0⟩
      | true =>
        have H1 := hide h1
        have H2 := hide h2
        have H3 := hide h3
        go_enter Tryz.func125, Tryz.ntmps125
        go_wp2_with fail
        refine (rightPart_any _ _).mono ?_
        rintro e w1 ⟨rfl, rfl⟩
        go_wp2_with fail
        refine (rightPart_any _ _).mono ?_
        rintro e w1 ⟨rfl, rfl⟩
        go_wp2_with fail
        refine (rightPart_any _ _).mono ?_
        rintro e w1 ⟨rfl, rfl⟩
        go_wp2_with fail
        refine (rightPre_any _ _ hs HE.out).mono ?_
        rintro e w1 ⟨rfl, hb⟩
        go_wp2_with fail
        go_ret
        exact ⟨ret_bool (by rw [HV.out, H1.out, H2.out, H3.out]; rfl), hB0.trans (hb.mono (by simp))⟩

set_option maxHeartbeats 400000 in
theorem number_any (s : ByteArray) (w : World) (hs : s.size ≤ 100000) (he : Env w) :
    Calls Tryz.prog 124 #[.string s] w fun e w' => e = .returned (.int .i64 (num s.data.toList)) ∧ Below w.heap.size w w' := by
  have HE := hide he
  clear he
  go_enter Tryz.func124, Tryz.ntmps124
  go_wp2_with fail
  refine (atoi_any s _ hs HE.out).mono ?_
  rintro e w1 ⟨x, rfl, hb⟩
  go_wp2_with fail
  go_ret
  exact ⟨rfl, hb⟩

set_option maxHeartbeats 400000 in
theorem dotted_any (bk o c : Nat) (xs : List ByteArray) (w : World) (hcells : ∀ (j : Nat) x, xs[j]? = some x → w.cell? ⟨bk, o + j, none⟩ = some (.string x)) (hbk : bk < w.heap.size) (hN : xs.length ≤ 100) (hcap : xs.length ≤ c) (hlen : (join (xs.map (·.data.toList)) [46]).length ≤ 100000) :
    Calls Tryz.prog 78 #[.slice (some ⟨bk, o, none⟩) xs.length c] w fun e w' => e = .returned (.string (str (join (xs.map (·.data.toList)) [46]))) ∧ Below w.heap.size w w' := by
  have HJ := hide (join_any bk o c xs w hcells hbk hN hcap hlen)
  clear hcells
  go_enter Tryz.func78, Tryz.ntmps78
  go_wp2_with fail
  refine HJ.out.mono ?_
  rintro e w1 ⟨rfl, hb⟩
  go_wp2_with fail
  go_ret
  exact ⟨rfl, hb⟩

end Go.Proofs.YthihnpjbdjmbhaaGreatDoor

namespace Go.Proofs.YthihnpjbdjmbhaaGreatDoor
set_option linter.unusedSimpArgs false
set_option linter.unusedVariables false
open Go.RowKit Go.Vr Go.Sort Go.Tx Go.Lib
attribute [local go_sem] setCellDrewN allocDrewN

set_option maxHeartbeats 400000 in
theorem final_any (a b c : Int) (p : ByteArray) (w : World) :
    Calls Tryz.prog 82 #[ver a b c p] w fun e w' => e = .returned (ver a b c ⟨#[]⟩) ∧ Below w.heap.size w w' := by
  go_enter Tryz.func82, Tryz.ntmps82
  go_wp2_with fail
  exact bodyPost_ret (v := ver a b c ⟨#[]⟩) (by simp [results, Tryz.results82, go_sem]) rfl ⟨rfl, ((Below.refl _ _).alloc (Nat.le_refl _) _).alloc (by simp) _⟩

/-- The first that is not 0. -/
def orL : List Int → Int
  | [] => 0
  | x :: xs => seq x (orL xs)

set_option maxHeartbeats 1000000 in
theorem or_any (g n cap : Nat) (xs : List Int) (w : World) (hn : xs.length = n) (h10 : n ≤ 10) (hc : ∀ i, i < n → w.cell? ⟨g, i, none⟩ = some (.int .i64 (xs.getD i 0))) :
    Calls Tryz.prog 60 #[.slice (some ⟨g, 0, none⟩) n cap] w fun e w' => e = .returned (.int .i64 (orL xs)) ∧ w' = w := by
  have HN := hide hn
  have HC := hide hc
  clear hn hc
  go_enter Tryz.func60, Tryz.ntmps60
  go_wp2_with fail
  go_loop [5, 8] (fun _ i => ∃ k : Nat, k ≤ n ∧ i = .int .i64 k ∧ Hid (orL xs = orL (xs.drop k))) (fun _ i => n - (RowKit.intOf i).toNat)
  case atStart => exact ⟨0, by omega, rfl, rfl⟩
  case round =>
    obtain ⟨k, hk, rfl, HO⟩ := hrel
    by_cases hlt : k < n
    · have hcl := HC.out k hlt
      have hlx : k < xs.length := by rw [HN.out]; exact hlt
      have HO2 : Hid (orL xs = seq (xs.getD k 0) (orL (xs.drop (k + 1)))) := by
        show orL xs = _
        rw [HO.out, List.drop_eq_getElem_cons hlx, List.getD_eq_getElem?_getD, List.getElem?_eq_getElem hlx]; rfl
      generalize xs.getD k 0 = x at *
      have i1 : (0 : Int) ≤ (k : Int) := by omega
      have i2 : (k : Int) < (n : Int) := by omega
      cases hq : (x != 0) with
      | true =>
        have HR : Hid (orL xs = x) := by show orL xs = x; rw [HO2.out]; exact seq_ne (by simpa using hq)
        go_wp2_with fail
        go_ret
        exact ⟨ret_int HR.out.symm, rfl⟩
      | false =>
        have HR : Hid (orL xs = orL (xs.drop (k + 1))) := by
          show orL xs = _
          have e : x = 0 := by simpa using hq
          rw [HO2.out, e, seq_zero]
        go_wp2_with fail
        go_round
        case rel => exact ⟨k + 1, by omega, by go_num, HR⟩
        case measure => simp [RowKit.intOf]; omega
    · have hd : decide ((k : Int) < (n : Int)) = false := by simp; omega
      have HR : Hid (orL xs = 0) := by
        show orL xs = 0
        rw [HO.out, List.drop_of_length_le (by rw [HN.out]; omega)]; rfl
      go_wp2_with fail
      go_ret
      exact ⟨ret_int HR.out.symm, rfl⟩

theorem or2 (x y : Int) (w : World) : Calls Tryz.prog 60 #[.slice (some ⟨w.heap.size, 0, none⟩) 2 2] (w.alloc (.cells #[.int .i64 x, .int .i64 y] 3)) fun e w' => e = .returned (.int .i64 (seq x y)) ∧ Below w.heap.size w w' := by
  have := or_any w.heap.size 2 2 [x, y] (w.alloc (.cells #[.int .i64 x, .int .i64 y] 3)) rfl (by omega) (fun i hi => by
    match i, hi with
    | 0, _ => simp [go_sem]
    | 1, _ => simp [go_sem])
  have e : orL [x, y] = seq x y := by show seq x (seq y 0) = _; rw [seq_right]
  rw [e] at this
  exact this.mono fun e w' h => ⟨h.1, h.2 ▸ (Below.refl _ _).alloc (Nat.le_refl _) _⟩
theorem or3 (x y z : Int) (w : World) : Calls Tryz.prog 60 #[.slice (some ⟨w.heap.size, 0, none⟩) 3 3] (w.alloc (.cells #[.int .i64 x, .int .i64 y, .int .i64 z] 3)) fun e w' => e = .returned (.int .i64 (seq x (seq y z))) ∧ Below w.heap.size w w' := by
  have := or_any w.heap.size 3 3 [x, y, z] (w.alloc (.cells #[.int .i64 x, .int .i64 y, .int .i64 z] 3)) rfl (by omega) (fun i hi => by
    match i, hi with
    | 0, _ => simp [go_sem]
    | 1, _ => simp [go_sem]
    | 2, _ => simp [go_sem])
  have e : orL [x, y, z] = seq x (seq y z) := by show seq x (seq y (seq z 0)) = _; rw [seq_right]
  rw [e] at this
  exact this.mono fun e w' h => ⟨h.1, h.2 ▸ (Below.refl _ _).alloc (Nat.le_refl _) _⟩

/-- made of digits, of a word that is not empty. -/
theorem madeDigits (s : ByteArray) (W : World) (hs : s.size ≤ 100000) (hn : s.size ≠ 0) :
    Calls Tryz.prog 111 #[.string s, .slice (some ⟨W.heap.size, 0, none⟩) 1 1] (W.alloc (.cells #[.string ⟨#[48, 49, 50, 51, 52, 53, 54, 55, 56, 57]⟩] 9)) fun e w' => e = .returned (.bool (digs s.data.toList)) ∧ Below W.heap.size W w' := by
  have := made_any s W.heap.size 0 1 1 [digitsL] _ hs (row_new W [digitsL] 1) (by omega)
  rw [dig_is] at this
  have e : digs s.data.toList = s.data.toList.all isDig := by rw [digs_eq]; simp [hn]
  rw [e]
  generalize s.data.toList.all isDig = q at this ⊢
  simp [digitsL] at this
  exact this.mono fun e w' h => ⟨h.1, ((Below.refl _ _).alloc (Nat.le_refl _) _).trans (h.2.mono (by omega))⟩

set_option maxHeartbeats 2000000 in
set_option maxRecDepth 100000 in
theorem cmpWord_any (x y : ByteArray) (w : World) (hx : x.size ≤ 10000) (hy : y.size ≤ 10000) (nx : x.size ≠ 0) (ny : y.size ≠ 0) :
    Calls Tryz.prog 86 #[.string x, .string y] w fun e w' => e = .returned (.int .i64 (cmpW x.data.toList y.data.toList)) ∧ Below w.heap.size w w' := by
  have MX := hide (fun W => madeDigits x W (by omega) nx)
  have MY := hide (fun W => madeDigits y W (by omega) ny)
  clear nx ny
  cases hp : digs x.data.toList with
  | true =>
    cases hq : digs y.data.toList with
    | true =>
      have HC : Hid (cmpW x.data.toList y.data.toList = seq (compareInt x.size y.size) (compareBytes x.data.toList y.data.toList)) := by show cmpW _ _ = _; rw [cmpW_both hp hq, len_eq, len_eq]
      rw [hp] at MX
      rw [hq] at MY
      clear hp hq
      go_enter Tryz.func86, Tryz.ntmps86
      go_wp2_with fail
      refine (MX.out _).mono ?_
      rintro e w1 ⟨rfl, b1⟩
      go_wp2_with fail
      refine (MY.out _).mono ?_
      rintro e w2 ⟨rfl, b2⟩
      go_wp2_with fail
      refine (cmpInt_any _ _ _).mono ?_
      rintro e w3 ⟨rfl, rfl⟩
      go_wp2_with fail
      refine (compare_any _ _ _).mono ?_
      rintro e w3 ⟨rfl, rfl⟩
      go_wp2_with fail
      refine (or2 _ _ _).mono ?_
      rintro e w3 ⟨rfl, b3⟩
      go_wp2_with fail
      go_ret
      exact ⟨ret_int HC.out.symm, step (step b1 b2) b3⟩
    | false =>
      have HC := hide (cmpW_left hp hq)
      rw [hp] at MX
      rw [hq] at MY
      clear hp hq
      go_enter Tryz.func86, Tryz.ntmps86
      go_wp2_with fail
      refine (MX.out _).mono ?_
      rintro e w1 ⟨rfl, b1⟩
      go_wp2_with fail
      refine (MY.out _).mono ?_
      rintro e w2 ⟨rfl, b2⟩
      go_wp2_with fail
      go_ret
      exact ⟨ret_int HC.out.symm, step b1 b2⟩
  | false =>
    cases hq : digs y.data.toList with
    | true =>
      have HC := hide (cmpW_right hp hq)
      rw [hp] at MX
      rw [hq] at MY
      clear hp hq
      go_enter Tryz.func86, Tryz.ntmps86
      go_wp2_with fail
      refine (MX.out _).mono ?_
      rintro e w1 ⟨rfl, b1⟩
      go_wp2_with fail
      refine (MY.out _).mono ?_
      rintro e w2 ⟨rfl, b2⟩
      go_wp2_with fail
      go_ret
      exact ⟨ret_int HC.out.symm, step b1 b2⟩
    | false =>
      have HC := hide (cmpW_none hp hq)
      rw [hp] at MX
      rw [hq] at MY
      clear hp hq
      go_enter Tryz.func86, Tryz.ntmps86
      go_wp2_with fail
      refine (MX.out _).mono ?_
      rintro e w1 ⟨rfl, b1⟩
      go_wp2_with fail
      refine (MY.out _).mono ?_
      rintro e w2 ⟨rfl, b2⟩
      go_wp2_with fail
      refine (compare_any _ _ _).mono ?_
      rintro e w3 ⟨rfl, rfl⟩
      go_wp2_with fail
      go_ret
      exact ⟨ret_int HC.out.symm, step b1 b2⟩

theorem cmpWord_enters : ∀ args w, (callFunc 86 args).run Tryz.prog w = .ok (.enter 86 args) w := enters_of Tryz.func86 (by kernel_rfl) rfl

end Go.Proofs.YthihnpjbdjmbhaaGreatDoor
