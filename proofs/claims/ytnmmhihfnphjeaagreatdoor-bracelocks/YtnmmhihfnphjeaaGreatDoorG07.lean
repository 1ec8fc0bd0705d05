/-
  Plain mathematics of quoted texts.
  Contracts of next, escape, unescape and of a quoted text's signs.
  Contracts of a quoted text's signs, of Unquote.
  Contract of Unquote.
-/
import Derived.Test.YtnmmhihfnphjeaaGreatDoorG03
import Derived.Test.YtnmmhihfnphjeaaGreatDoorG04
import Derived.Test.YtnmmhihfnphjeaaGreatDoorG06
import Derived.Deep.AppendLies
import Derived.Deep.LoopGhost

namespace Go.Tx
set_option linter.unusedVariables false

/-- What a sign behind a backslash stands for. -/
def unesc (c : UInt8) : Option UInt8 :=
  if c = 34 then some 34 else if c = 92 then some 92 else if c = 47 then some 47 else if c = 110 then some 10 else if c = 116 then some 9 else none

/-- One sign: what it says, how many bytes it has. -/
def sgn : List UInt8 → Option (UInt8 × Nat)
  | [] => none
  | c :: l => if c = 92 then (match l with | [] => none | d :: _ => (unesc d).map fun x => (x, 2)) else if prB (c.toNat : Int) = true then some (c, 1) else none

theorem sgn_cons (c : UInt8) (l : List UInt8) : sgn (c :: l) = if c = 92 then (match l with | [] => none | d :: _ => (unesc d).map fun x => (x, 2)) else if prB (c.toNat : Int) = true then some (c, 1) else none := by
  rw [sgn.eq_def]

/-- Behind the opening quote: what is said, how many bytes it has with the closing quote. -/
def unq : List UInt8 → Option (List UInt8 × Nat)
  | [] => none
  | c :: l => if c = 34 then some ([], 1) else if c = 92 then (match l with | [] => none | d :: l' => match unesc d with | none => none | some x => (unq l').map fun y => (x :: y.1, y.2 + 2)) else if prB (c.toNat : Int) = true then (unq l).map fun y => (c :: y.1, y.2 + 1) else none

theorem unq_cons (c : UInt8) (l : List UInt8) : unq (c :: l) = if c = 34 then some ([], 1) else if c = 92 then (match l with | [] => none | d :: l' => match unesc d with | none => none | some x => (unq l').map fun y => (x :: y.1, y.2 + 2)) else if prB (c.toNat : Int) = true then (unq l).map fun y => (c :: y.1, y.2 + 1) else none := by
  rw [unq.eq_def]

/-- A text that begins with a quoted one. -/
def unquote : List UInt8 → Option (List UInt8 × Nat)
  | [] => none
  | c :: l => if c = 34 then (unq l).map fun y => (y.1, y.2 + 1) else none

theorem unq_step (l : List UInt8) (h : ¬ l.head? = some 34) : unq l = match sgn l with | none => none | some (c, n) => (unq (l.drop n)).map fun y => (c :: y.1, y.2 + n) := by
  cases l with
  | nil => rfl
  | cons c l =>
    have hc : ¬ c = 34 := by simpa using h
    rw [unq_cons, sgn_cons, if_neg hc]
    by_cases h2 : c = 92
    · rw [if_pos h2, if_pos h2]
      cases l with
      | nil => rfl
      | cons d l' =>
        simp only
        cases unesc d <;> simp
    · rw [if_neg h2, if_neg h2]
      by_cases h3 : prB (c.toNat : Int) = true
      · rw [if_pos h3, if_pos h3]; simp
      · rw [if_neg h3, if_neg h3]

theorem unq_len : ∀ (n : Nat) (l : List UInt8) (o : List UInt8) (m : Nat), l.length ≤ n → unq l = some (o, m) → o.length ≤ l.length ∧ m ≤ l.length
  | 0, l, o, m, h, e => by
    have : l = [] := List.eq_nil_of_length_eq_zero (by omega)
    subst this; simp [unq] at e
  | n + 1, [], o, m, h, e => by simp [unq] at e
  | n + 1, c :: l, o, m, h, e => by
    rw [unq_cons] at e
    simp only [List.length_cons] at h ⊢
    by_cases h1 : c = 34
    · rw [if_pos h1] at e
      simp only [Option.some.injEq, Prod.mk.injEq] at e
      obtain ⟨rfl, rfl⟩ := e; simp
    · rw [if_neg h1] at e
      by_cases h2 : c = 92
      · rw [if_pos h2] at e
        cases l with
        | nil => simp at e
        | cons d l' =>
          simp only at e
          cases hu : unesc d with
          | none => rw [hu] at e; simp at e
          | some x =>
            rw [hu] at e
            simp only [Option.map_eq_some_iff, Prod.mk.injEq] at e
            obtain ⟨⟨o', m'⟩, he, rfl, rfl⟩ := e
            simp only [List.length_cons] at h ⊢
            have := unq_len n l' o' m' (by omega) he
            omega
      · rw [if_neg h2] at e
        by_cases h3 : prB (c.toNat : Int) = true
        · rw [if_pos h3] at e
          simp only [Option.map_eq_some_iff, Prod.mk.injEq] at e
          obtain ⟨⟨o', m'⟩, he, rfl, rfl⟩ := e
          have := unq_len n l o' m' (by omega) he
          simp only [List.length_cons]
          omega
        · rw [if_neg h3] at e; cases e

/-- A byte's own sign behind a backslash. -/
def esc (c : UInt8) : Option UInt8 := if c = 34 then some 34 else if c = 92 then some 92 else if c = 10 then some 110 else if c = 9 then some 116 else none
def esc1 (c : UInt8) : List UInt8 := match esc c with | some d => [92, d] | none => [c]
/-- The inside of a quoted text. -/
def escs (l : List UInt8) : List UInt8 := l.flatMap esc1
def quote (l : List UInt8) : List UInt8 := 34 :: (escs l ++ [34])

theorem escs_snoc (l : List UInt8) (c : UInt8) : escs (l ++ [c]) = escs l ++ esc1 c := by simp [escs]
theorem esc1_len (c : UInt8) : 1 ≤ (esc1 c).length ∧ (esc1 c).length ≤ 2 := by unfold esc1; split <;> simp
theorem escs_len (l : List UInt8) : (escs l).length ≤ 2 * l.length := by
  induction l with
  | nil => simp [escs]
  | cons c l ih => have := esc1_len c; simp [escs] at ih ⊢; omega

end Go.Tx

namespace Go.Proofs.YtnmmhihfnphjeaaGreatDoor.W
set_option linter.unusedVariables false
open Go.RowKit Go.Joins Go.Tx
attribute [local go_sem ↓] Go.wp_at_zero Go.wp_at_succ

theorem drop_cons (s : ByteArray) (p : Nat) (h : p < s.size) : s.data.toList.drop p = s[p] :: s.data.toList.drop (p + 1) := by
  rw [List.drop_eq_getElem_cons (by rw [len_eq]; omega)]; rfl

set_option maxHeartbeats 400000 in
theorem next_in (b : Nat) (s : ByteArray) (p : Nat) (w : World) (h : IsCur w b s p) (hs : s.size ≤ 2000000000000) (hp : p < s.size) :
    Calls Tryz.prog 120 #[.pointer (some ⟨b, 0, none⟩)] w fun x w' => x = .returned (.tuple #[.int .u8 (s[p].toNat : Int), .bool true]) ∧ IsCur w' b s (p + 1) ∧ Oth b w w' := by
  have HP : Hid (Lib.hasPrefix (s.data.toList.drop p) ((s.extract p s.size).extract 0 1).data.toList = true) := by
    show Lib.hasPrefix _ _ = true
    rw [ext_list, rest_list]
    exact List.isPrefixOf_iff_prefix.2 (List.take_prefix _ _)
  have hz : ((s.extract p s.size).extract 0 1).size = 1 := by rw [← len_eq, ext_list, rest_list, List.length_take, List.length_drop, len_eq]; omega
  have hz2 : (1 : Int) ≤ ((s.extract p s.size).size : Int) := by
    have : (s.extract p s.size).size = s.size - p := by rw [← len_eq, rest_list, List.length_drop, len_eq]
    omega
  go_enter Tryz.func120, Tryz.ntmps120
  go_wp2_with fail
  refine (peek_in b s p w h hs hp).mono ?_
  rintro x w1 ⟨rfl, n, rfl⟩
  have h1 := h.drewN n
  generalize hr : (s.extract p s.size).extract 0 1 = r1 at *
  go_wp2_with fail
  go_region_with (first | (go_at_call 73; refine (rest_any b s p _ (by exact h1.of_block rfl) hs).mono ?_; rintro x w2 ⟨rfl, m, rfl⟩) | (go_at_call 41; refine (pass_cur b s r1 p _ (by exact h1.of_block rfl) hs HP.out).mono ?_; rintro x w2 ⟨rfl, hc2, ho2⟩))
  all_goals
    go_wp2_with fail
    go_ret2
    exact ⟨rfl, by rw [← hz]; exact hc2, (Oth.drewN b w _).trans ho2⟩

set_option maxHeartbeats 400000 in
theorem next_end (b : Nat) (s : ByteArray) (p : Nat) (w : World) (h : IsCur w b s p) (hs : s.size ≤ 2000000000000) (hp : ¬ p < s.size) :
    Calls Tryz.prog 120 #[.pointer (some ⟨b, 0, none⟩)] w fun x w' => x = .returned (.tuple #[.int .u8 0, .bool false]) ∧ ∃ n, w' = w.drewN n := by
  go_enter Tryz.func120, Tryz.ntmps120
  go_wp2_with fail
  refine (peek_end b s p w h hs hp).mono ?_
  rintro x w1 ⟨rfl, n, rfl⟩
  go_wp2_with fail
  go_ret2
  exact ⟨rfl, n, rfl⟩

theorem u8_of {c : UInt8} {n : Nat} (hn : n < 256) (h : (c.toNat : Int) = n) : c = UInt8.ofNat n := by
  apply UInt8.toNat_inj.1; rw [UInt8.toNat_ofNat']; omega

/-- What unescape answers. -/
def unescV (c : UInt8) : Value := match unesc c with | some d => .tuple #[.int .u8 (d.toNat : Int), .bool true] | none => .tuple #[.int .u8 0, .bool false]

set_option maxHeartbeats 800000 in
theorem unescape_any (c : UInt8) (w : World) :
    Calls Tryz.prog 121 #[.int .u8 (c.toNat : Int)] w fun x w' => x = .returned (unescV c) ∧ w' = w := by
  by_cases h1 : (c.toNat : Int) = 34
  · obtain rfl : c = 34 := u8_of (n := 34) (by decide) h1
    go_enter Tryz.func121, Tryz.ntmps121
    go_wp2_with fail
    go_ret2
    exact ⟨rfl, rfl⟩
  by_cases h2 : (c.toNat : Int) = 92
  · obtain rfl : c = 92 := u8_of (n := 92) (by decide) h2
    go_enter Tryz.func121, Tryz.ntmps121
    go_wp2_with fail
    go_ret2
    exact ⟨rfl, rfl⟩
  by_cases h3 : (c.toNat : Int) = 47
  · obtain rfl : c = 47 := u8_of (n := 47) (by decide) h3
    go_enter Tryz.func121, Tryz.ntmps121
    go_wp2_with fail
    go_ret2
    exact ⟨rfl, rfl⟩
  by_cases h4 : (c.toNat : Int) = 110
  · obtain rfl : c = 110 := u8_of (n := 110) (by decide) h4
    go_enter Tryz.func121, Tryz.ntmps121
    go_wp2_with fail
    go_ret2
    exact ⟨rfl, rfl⟩
  by_cases h5 : (c.toNat : Int) = 116
  · obtain rfl : c = 116 := u8_of (n := 116) (by decide) h5
    go_enter Tryz.func121, Tryz.ntmps121
    go_wp2_with fail
    go_ret2
    exact ⟨rfl, rfl⟩
  have HV : Hid (unescV c = .tuple #[.int .u8 0, .bool false]) := by
    have e1 : c ≠ 34 := fun e => h1 (by rw [e]; rfl)
    have e2 : c ≠ 92 := fun e => h2 (by rw [e]; rfl)
    have e3 : c ≠ 47 := fun e => h3 (by rw [e]; rfl)
    have e4 : c ≠ 110 := fun e => h4 (by rw [e]; rfl)
    have e5 : c ≠ 116 := fun e => h5 (by rw [e]; rfl)
    show unescV c = _
    simp [unescV, unesc, e1, e2, e3, e4, e5]
  have d1 : ((c.toNat : Int) == 34) = false := by simpa using h1
  have d2 : ((c.toNat : Int) == 92) = false := by simpa using h2
  have d3 : ((c.toNat : Int) == 47) = false := by simpa using h3
  have d4 : ((c.toNat : Int) == 110) = false := by simpa using h4
  have d5 : ((c.toNat : Int) == 116) = false := by simpa using h5
  clear h1 h2 h3 h4 h5
  go_enter Tryz.func121, Tryz.ntmps121
  go_wp2_with fail
  go_ret2
  exact ⟨by rw [HV.out]; rfl, rfl⟩

/-- What escape answers. -/
def escV (c : UInt8) : Value := match esc c with | some d => .tuple #[.int .u8 (d.toNat : Int), .bool true] | none => .tuple #[.int .u8 0, .bool false]

set_option maxHeartbeats 800000 in
theorem escape_any (c : UInt8) (w : World) :
    Calls Tryz.prog 55 #[.int .u8 (c.toNat : Int)] w fun x w' => x = .returned (escV c) ∧ w' = w := by
  by_cases h1 : (c.toNat : Int) = 34
  · obtain rfl : c = 34 := u8_of (n := 34) (by decide) h1
    go_enter Tryz.func55, Tryz.ntmps55
    go_wp2_with fail
    go_ret2
    exact ⟨rfl, rfl⟩
  by_cases h2 : (c.toNat : Int) = 92
  · obtain rfl : c = 92 := u8_of (n := 92) (by decide) h2
    go_enter Tryz.func55, Tryz.ntmps55
    go_wp2_with fail
    go_ret2
    exact ⟨rfl, rfl⟩
  by_cases h3 : (c.toNat : Int) = 10
  · obtain rfl : c = 10 := u8_of (n := 10) (by decide) h3
    go_enter Tryz.func55, Tryz.ntmps55
    go_wp2_with fail
    go_ret2
    exact ⟨rfl, rfl⟩
  by_cases h4 : (c.toNat : Int) = 9
  · obtain rfl : c = 9 := u8_of (n := 9) (by decide) h4
    go_enter Tryz.func55, Tryz.ntmps55
    go_wp2_with fail
    go_ret2
    exact ⟨rfl, rfl⟩
  have HV : Hid (escV c = .tuple #[.int .u8 0, .bool false]) := by
    have e1 : c ≠ 34 := fun e => h1 (by rw [e]; rfl)
    have e2 : c ≠ 92 := fun e => h2 (by rw [e]; rfl)
    have e3 : c ≠ 10 := fun e => h3 (by rw [e]; rfl)
    have e4 : c ≠ 9 := fun e => h4 (by rw [e]; rfl)
    show escV c = _
    simp [escV, esc, e1, e2, e3, e4]
  have d1 : ((c.toNat : Int) == 34) = false := by simpa using h1
  have d2 : ((c.toNat : Int) == 92) = false := by simpa using h2
  have d3 : ((c.toNat : Int) == 10) = false := by simpa using h3
  have d4 : ((c.toNat : Int) == 9) = false := by simpa using h4
  clear h1 h2 h3 h4
  go_enter Tryz.func55, Tryz.ntmps55
  go_wp2_with fail
  go_ret2
  exact ⟨by rw [HV.out]; rfl, rfl⟩

end Go.Proofs.YtnmmhihfnphjeaaGreatDoor.W

namespace Go.Proofs.YtnmmhihfnphjeaaGreatDoor.W
set_option linter.unusedVariables false
open Go.RowKit Go.Joins Go.Tx
attribute [local go_sem ↓] Go.wp_at_zero Go.wp_at_succ

/-- A quoted text that is being read: block N is its cursor, block N + 1 itself; what it has said lies behind them. -/
structure QS (w : World) (N : Nat) (s : ByteArray) (p : Nat) (sd : List UInt8) : Prop where
  cur : IsCur w N s p
  ex : ∃ v, w.heap[N + 1]? = some (.cells #[.pointer (some ⟨N, 0, none⟩), v] 152 (0, 0)) ∧ w.ownsRow (N + 2) 5 1 v sd.length (Lib.byteCells sd)
  sz : N + 2 ≤ w.heap.size

theorem own_of_blocks {w w' : World} {base e size n : Nat} {v : Value} {xs : List Value} (h : w.ownsRow base e size v n xs) (hb : ∀ k, base ≤ k → w'.heap[k]? = w.heap[k]?) : w'.ownsRow base e size v n xs := by
  refine ⟨h.1, ?_⟩
  rcases h.2 with h2 | ⟨g, cap, cur, hv, hg, hh, r⟩
  · exact .inl h2
  · exact .inr ⟨g, cap, cur, hv, hg, by rw [hb g hg]; exact hh, r⟩

theorem QS.oth {w w' : World} {N p p' : Nat} {s : ByteArray} {sd : List UInt8} (h : QS w N s p sd) (ho : Oth N w w') (hc : IsCur w' N s p') : QS w' N s p' sd := by
  obtain ⟨v, hv, hr⟩ := h.ex
  exact ⟨hc, ⟨v, by rw [ho.block _ (by omega)]; exact hv, own_of_blocks hr (fun k hk => ho.block k (by omega))⟩, by rw [ho.size]; exact h.sz⟩

theorem pre_one (s : ByteArray) (p : Nat) (c : UInt8) (h : p < s.size) : Lib.hasPrefix (s.data.toList.drop p) [c] = (c == s[p]) := by
  rw [drop_cons s p h]; simp [Lib.hasPrefix, List.isPrefixOf]
theorem pre_end (s : ByteArray) (p : Nat) (c : UInt8) (h : ¬ p < s.size) : Lib.hasPrefix (s.data.toList.drop p) [c] = false := by
  rw [List.drop_eq_nil_of_le (by rw [len_eq]; omega)]; rfl

/-- The pointer to the cursor, read off the quoted text. -/
theorem QS.c0 {w : World} {N p : Nat} {s : ByteArray} {sd : List UInt8} (h : QS w N s p sd) : w.cell? ⟨N + 1, 0, none⟩ = some (.pointer (some ⟨N, 0, none⟩)) := by
  obtain ⟨v, hv, _⟩ := h.ex
  rw [cell_of_block hv]; rfl

set_option maxHeartbeats 400000 in
theorem sign_end (N : Nat) (s : ByteArray) (p : Nat) (sd : List UInt8) (w : World) (h : QS w N s p sd) (hs : s.size ≤ 2000000000000) (hp : ¬ p < s.size) :
    Calls Tryz.prog 108 #[.pointer (some ⟨N + 1, 0, none⟩)] w fun x w' => x = .returned (.bool false) ∧ Below N w w' := by
  have c0 := h.c0
  have hcur := h.cur
  go_enter Tryz.func108, Tryz.ntmps108
  go_wp2_with fail
  refine (take_no N s _ p w hcur hs (pre_end s p 92 hp)).mono ?_
  rintro x w1 ⟨rfl, n, rfl⟩
  go_wp2_with fail
  refine (next_end N s p _ (hcur.drewN n) hs hp).mono ?_
  rintro x w2 ⟨rfl, m, rfl⟩
  go_wp2_with fail
  go_ret
  exact ⟨rfl, (Oth.drewN N w _).below (Nat.le_refl _)⟩

theorem grown_at {w w1 : World} {o : Obj} {v : Value} {k : Nat} {X : Obj} (hv : w.heap[k]? = some X) (hlt : k < w.heap.size) (hg : (w.alloc o).grownBy w1 v.ownBlock) (hne : v.ownBlock ≠ some k) : w1.heap[k]? = some X := by
  rw [hg.block k (by simp; omega) (fun e => hne e.symm), Below.heap_alloc w o k hlt]; exact hv

theorem row_block {w : World} {base e n : Nat} {v : Value} {xs : List Value} (h : w.ownsRow base e 1 v n xs) : ∀ k, v.ownBlock = some k → base ≤ k := fun k hk => (h.lt k hk).1

theorem byteCells_snoc (sd : List UInt8) (c : UInt8) : Lib.byteCells (sd ++ [c]) = Lib.byteCells sd ++ [.int .u8 (c.toNat : Int)] := by simp [Lib.byteCells]

theorem put_below {w w1 : World} {N p : Nat} {s : ByteArray} {sd : List UInt8} {v : Value} {o : Obj} (h : QS w N s p sd) (hr : w.ownsRow (N + 2) 5 1 v sd.length (Lib.byteCells sd))
    (hg : (w.alloc o).grownBy w1 v.ownBlock) (u : Value) : Below N w (w1.setCell ⟨N + 1, 1, none⟩ u) := by
  have hsz := h.sz
  exact Below.setCell (((Below.refl N w).alloc (by omega) o).grown hg (by simp; omega) (fun k e => by have := row_block hr k e; omega)) (by show N ≤ N + 1; omega) u

theorem put_qs {w w1 : World} {N p g cap : Nat} {s : ByteArray} {sd : List UInt8} {v : Value} {c : UInt8} {o : Obj} (h : QS w N s p sd) (hv : w.heap[N + 1]? = some (.cells #[.pointer (some ⟨N, 0, none⟩), v] 152 (0, 0)))
    (hr : w.ownsRow (N + 2) 5 1 v sd.length (Lib.byteCells sd))
    (hown : w1.ownsRow (N + 2) 5 1 (.slice (some ⟨g, 0, none⟩) (sd.length + 1) cap) (sd.length + 1) (Lib.byteCells sd ++ [.int .u8 (c.toNat : Int)])) (hg : (w.alloc o).grownBy w1 v.ownBlock)
    (hv4 : w1.heap[N + 1]? = some (.cells #[.pointer (some ⟨N, 0, none⟩), v] 152 (0, 0))) : QS (w1.setCell ⟨N + 1, 1, none⟩ (.slice (some ⟨g, 0, none⟩) (sd.length + 1) cap)) N s p (sd ++ [c]) := by
  have hsz := h.sz
  have hnb : v.ownBlock ≠ some N := fun e => by have := row_block hr _ e; omega
  refine ⟨h.cur.of_block ?_, ⟨.slice (some ⟨g, 0, none⟩) (sd.length + 1) cap, ?_, ?_⟩, ?_⟩
  · rw [Below.heap_setCell _ _ _ _ (by show N ≠ N + 1; omega), hg.block N (by simp; omega) (fun e => hnb e.symm), Below.heap_alloc w o N (by omega)]
  · rw [block_setCell hv4]; rfl
  · rw [byteCells_snoc, List.length_append]
    exact ownsRow_setCell_below hown (by show N + 1 < N + 2; omega) _
  · have := hg.size
    simp at this ⊢
    omega

set_option maxHeartbeats 800000 in
set_option maxRecDepth 100000 in
theorem sign_plain (N : Nat) (s : ByteArray) (p : Nat) (sd : List UInt8) (w : World) (h : QS w N s p sd) (hs : s.size ≤ 2000000000000) (hp : p < s.size) (hsd : sd.length ≤ s.size) (c : UInt8) (HC : Hid (s[p] = c)) (hc : ¬ c = 92) :
    Calls Tryz.prog 108 #[.pointer (some ⟨N + 1, 0, none⟩)] w fun x w' => x = .returned (.bool (prB (c.toNat : Int))) ∧ Below N w w' ∧ (prB (c.toNat : Int) = true → QS w' N s (p + 1) (sd ++ [c])) := by
  have c0 := h.c0
  have hcur := h.cur
  have HPR : Hid (Lib.hasPrefix (s.data.toList.drop p) (ByteArray.mk #[92]).data.toList = false) := by
    show Lib.hasPrefix _ [92] = false
    rw [pre_one s p 92 hp, HC.out]; simpa using fun e => hc e.symm
  cases hpr : prB (c.toNat : Int)
  all_goals
    go_enter Tryz.func108, Tryz.ntmps108
    go_wp2_with fail
    refine (take_no N s _ p w hcur hs HPR.out).mono ?_
    rintro x w1 ⟨rfl, n, rfl⟩
    go_wp2_with fail
    refine (next_in N s p _ (hcur.drewN n) hs hp).mono ?_
    rw [HC.out]
    rintro x w2 ⟨rfl, hc2, ho2⟩
    have hq2 : QS w2 N s (p + 1) sd := h.oth ((Oth.drewN N w n).trans ho2) hc2
    have hB2 : Below N w w2 := ((Oth.drewN N w n).trans ho2).below (Nat.le_refl _)
    clear h hcur c0 hc2 ho2 HPR HC
    go_wp2_with fail
    refine (printable_any _ _).mono ?_
    rw [hpr]
    rintro x w3 ⟨rfl, rfl⟩
  · go_wp2_with fail
    go_ret
    exact ⟨rfl, hB2, fun e => by cases e⟩
  · obtain ⟨v, hv, hown⟩ := hq2.ex
    have hsz := hq2.sz
    have c1 : w3.cell? ⟨N + 1, 1, none⟩ = some v := by rw [cell_of_block hv]; rfl
    have hown1 := hown.alloc (.cells #[.int .u8 (c.toNat : Int)] 5)
    have hnb : v.ownBlock ≠ some (N + 1) := fun e => by have := row_block hown _ e; omega
    go_wp2_with (at_builtin; refine wpList_append_lies _ rfl _ _ _ rfl (N + 2) 5 Tryz.t5 (.int .u8 0) 1 1 Tryz.underlying38 info8 rfl rfl rfl rfl (by omega) v sd.length (Lib.byteCells sd) rfl hown1 ⟨w3.heap.size, 0, none⟩ 1 1 [.int .u8 (c.toNat : Int)] rfl rfl (cell_one_new _ _ _) (by simp [Value.oneCell']) (by omega) (by unfold maxLen; omega) (by omega) (by simp; omega) (w3.heap.size + 1) (by simp) ?_; intro g cap w4 ho4 hg4 hat hlt; have hv4 := grown_at hv (by omega) hg4 hnb; have c4 : w4.cell? ⟨N + 1, 1, none⟩ = some v := (by rw [cell_of_block hv4]; rfl); have f4 := unfrozen_of_block hv4 1; clear hat)
    go_ret
    exact ⟨rfl, hB2.trans (put_below hq2 hown hg4 _), fun _ => put_qs hq2 hv hown ho4 hg4 hv4⟩

set_option maxHeartbeats 400000 in
set_option maxRecDepth 100000 in
theorem sign_cut (N : Nat) (s : ByteArray) (p : Nat) (sd : List UInt8) (w : World) (h : QS w N s p sd) (hs : s.size ≤ 2000000000000) (hp : p < s.size) (HC : Hid (s[p] = 92)) (hp1 : ¬ p + 1 < s.size) :
    Calls Tryz.prog 108 #[.pointer (some ⟨N + 1, 0, none⟩)] w fun x w' => x = .returned (.bool false) ∧ Below N w w' := by
  have c0 := h.c0
  have hcur := h.cur
  have HPR : Hid (Lib.hasPrefix (s.data.toList.drop p) (ByteArray.mk #[92]).data.toList = true) := by
    show Lib.hasPrefix _ [92] = true
    rw [pre_one s p 92 hp, HC.out]; rfl
  go_enter Tryz.func108, Tryz.ntmps108
  go_wp2_with fail
  refine (take_yes N s _ p w hcur hs HPR.out).mono ?_
  rintro x w1 ⟨rfl, hc1, ho1⟩
  have hq1 := h.oth ho1 hc1
  have c1 := hq1.c0
  go_wp2_with fail
  refine (next_end N s _ _ hc1 hs hp1).mono ?_
  rintro x w2 ⟨rfl, m, rfl⟩
  go_wp2_with fail
  go_ret
  exact ⟨rfl, (ho1.trans (Oth.drewN N _ m)).below (Nat.le_refl _)⟩

set_option maxHeartbeats 800000 in
set_option maxRecDepth 100000 in
theorem sign_esc (N : Nat) (s : ByteArray) (p : Nat) (sd : List UInt8) (w : World) (h : QS w N s p sd) (hs : s.size ≤ 2000000000000) (hp : p < s.size) (hsd : sd.length ≤ s.size) (HC : Hid (s[p] = 92)) (hp1 : p + 1 < s.size) (d : UInt8) (HD : Hid (s[p + 1] = d)) (u : Option UInt8) (HU : Hid (unesc d = u)) :
    Calls Tryz.prog 108 #[.pointer (some ⟨N + 1, 0, none⟩)] w fun x w' => x = .returned (.bool u.isSome) ∧ Below N w w' ∧ (∀ c, u = some c → QS w' N s (p + 2) (sd ++ [c])) := by
  have c0 := h.c0
  have hcur := h.cur
  have HPR : Hid (Lib.hasPrefix (s.data.toList.drop p) (ByteArray.mk #[92]).data.toList = true) := by
    show Lib.hasPrefix _ [92] = true
    rw [pre_one s p 92 hp, HC.out]; rfl
  rcases u with _ | c
  all_goals
    go_enter Tryz.func108, Tryz.ntmps108
    go_wp2_with fail
    refine (take_yes N s _ p w hcur hs HPR.out).mono ?_
    rintro x w1 ⟨rfl, hc1, ho1⟩
    have hc1 : IsCur w1 N s (p + 1) := hc1
    have hq1 := h.oth ho1 hc1
    have c1 := hq1.c0
    go_wp2_with fail
    refine (next_in N s (p + 1) _ hc1 hs hp1).mono ?_
    rw [HD.out]
    rintro x w2 ⟨rfl, hc2, ho2⟩
    have hq2 : QS w2 N s (p + 2) sd := hq1.oth ho2 hc2
    have hB2 : Below N w w2 := (ho1.trans ho2).below (Nat.le_refl _)
    clear h hcur c0 hc2 ho2 HPR HC hq1 c1 ho1 hc1 HD
    go_wp2_with fail
    refine (unescape_any d _).mono ?_
    unfold unescV
    rw [HU.out]
    rintro x w3 ⟨rfl, rfl⟩
  · go_wp2_with fail
    go_ret
    exact ⟨rfl, hB2, fun c e => by cases e⟩
  · obtain ⟨v, hv, hown⟩ := hq2.ex
    have hsz := hq2.sz
    have c1 : w3.cell? ⟨N + 1, 1, none⟩ = some v := by rw [cell_of_block hv]; rfl
    have hown1 := hown.alloc (.cells #[.int .u8 (c.toNat : Int)] 5)
    have hnb : v.ownBlock ≠ some (N + 1) := fun e => by have := row_block hown _ e; omega
    go_wp2_with (at_builtin; refine wpList_append_lies _ rfl _ _ _ rfl (N + 2) 5 Tryz.t5 (.int .u8 0) 1 1 Tryz.underlying38 info8 rfl rfl rfl rfl (by omega) v sd.length (Lib.byteCells sd) rfl hown1 ⟨w3.heap.size, 0, none⟩ 1 1 [.int .u8 (c.toNat : Int)] rfl rfl (cell_one_new _ _ _) (by simp [Value.oneCell']) (by omega) (by unfold maxLen; omega) (by omega) (by simp; omega) (w3.heap.size + 1) (by simp) ?_; intro g cap w4 ho4 hg4 hat hlt; have hv4 := grown_at hv (by omega) hg4 hnb; have c4 : w4.cell? ⟨N + 1, 1, none⟩ = some v := (by rw [cell_of_block hv4]; rfl); have f4 := unfrozen_of_block hv4 1; clear hat)
    go_ret
    exact ⟨rfl, hB2.trans (put_below hq2 hown hg4 _), fun c' e => by cases e; exact put_qs hq2 hv hown ho4 hg4 hv4⟩


theorem sign_any (N : Nat) (s : ByteArray) (p : Nat) (sd : List UInt8) (w : World) (h : QS w N s p sd) (hs : s.size ≤ 2000000000000) (hsd : sd.length ≤ s.size) :
    Calls Tryz.prog 108 #[.pointer (some ⟨N + 1, 0, none⟩)] w fun x w' => x = .returned (.bool (sgn (s.data.toList.drop p)).isSome) ∧ Below N w w' ∧ (∀ c n, sgn (s.data.toList.drop p) = some (c, n) → QS w' N s (p + n) (sd ++ [c])) := by
  by_cases hp : p < s.size
  · rw [drop_cons s p hp, sgn_cons]
    by_cases hc : s[p] = 92
    · rw [if_pos hc]
      by_cases hp1 : p + 1 < s.size
      · rw [drop_cons s (p + 1) hp1]
        refine (sign_esc N s p sd w h hs hp hsd hc hp1 s[p + 1] rfl (unesc s[p + 1]) rfl).mono ?_
        rintro x w' ⟨rfl, hb, hq⟩
        refine ⟨by simp, hb, fun c n e => ?_⟩
        simp only [Option.map_eq_some_iff, Prod.mk.injEq] at e
        obtain ⟨a, ha, rfl, rfl⟩ := e
        exact hq a ha
      · rw [List.drop_eq_nil_of_le (by rw [len_eq]; omega)]
        refine (sign_cut N s p sd w h hs hp hc hp1).mono ?_
        rintro x w' ⟨rfl, hb⟩
        exact ⟨rfl, hb, fun c n e => by cases e⟩
    · rw [if_neg hc]
      refine (sign_plain N s p sd w h hs hp hsd s[p] rfl hc).mono ?_
      rintro x w' ⟨rfl, hb, hq⟩
      cases hpr : prB (s[p].toNat : Int) with
      | true =>
        refine ⟨rfl, hb, fun c n e => ?_⟩
        simp at e
        obtain ⟨rfl, rfl⟩ := e
        exact hq hpr
      | false => exact ⟨rfl, hb, fun c n e => by simp at e⟩
  · rw [List.drop_eq_nil_of_le (by rw [len_eq]; omega)]
    refine (sign_end N s p sd w h hs hp).mono ?_
    rintro x w' ⟨rfl, hb⟩
    exact ⟨rfl, hb, fun c n e => by cases e⟩

end Go.Proofs.YtnmmhihfnphjeaaGreatDoor.W

namespace Go.Proofs.YtnmmhihfnphjeaaGreatDoor.W
set_option linter.unusedVariables false
open Go.RowKit Go.Joins Go.Tx
attribute [local go_sem ↓] Go.wp_at_zero Go.wp_at_succ

/-- What Unquote answers. -/
def unqV (o : Option (List UInt8 × Nat)) : Value := match o with | some y => .tuple #[.string (str y.1), .int .i64 y.2, .bool true] | none => .tuple #[.string ⟨#[]⟩, .int .i64 0, .bool false]

theorem QS.start (s : ByteArray) (w : World) : QS ((w.alloc (.cells #[.int .i64 0, .int .i64 0, .int .i64 0, .string s] 86)).alloc (.cells #[.pointer (some ⟨w.heap.size, 0, none⟩), .slice none 0 0] 152)) w.heap.size s 0 [] := by
  refine ⟨(new_cur s w).below ((Below.refl _ _).alloc (Nat.le_refl _) _), ⟨.slice none 0 0, ?_, World.ownsRow_nil _ _ _ _⟩, by simp⟩
  have := heap_alloc_new (w.alloc (.cells #[.int .i64 0, .int .i64 0, .int .i64 0, .string s] 86)) (.cells #[.pointer (some ⟨w.heap.size, 0, none⟩), .slice none 0 0] 152)
  simpa using this

theorem QS.said {w : World} {N p : Nat} {s : ByteArray} {sd : List UInt8} (h : QS w N s p sd) : ∃ v, w.cell? ⟨N + 1, 1, none⟩ = some v ∧ ∀ W : World, W.heap = w.heap → (convert 38 9 v).run Tryz.prog W = .ok (.string (str sd)) W := by
  obtain ⟨v, hv, hr⟩ := h.ex
  refine ⟨v, by rw [cell_of_block hv]; rfl, fun W hW => ?_⟩
  rcases hr.2 with ⟨rfl, h0⟩ | ⟨g, cap, cur, rfl, hg, hh, hrest⟩
  · have : sd = [] := List.eq_nil_of_length_eq_zero h0
    subst this
    rw [run_convert_bytes_nil W 38 5 Tryz.underlying38 Tryz.underlying5 0 0 9 Tryz.underlying9]
    rfl
  · have hr' : W.ownsRow (N + 2) 5 1 (.slice (some ⟨g, 0, none⟩) sd.length cap) sd.length (Lib.byteCells sd) := own_of_blocks hr (fun k _ => by rw [hW])
    rw [run_convert_bytes_arg W 38 5 Tryz.underlying38 Tryz.underlying5 g 0 sd.length cap (sd.map fun c => (c.toNat : Int)) (by simp) (fun i hi => by
      rw [Nat.zero_add, hr'.cellAt i (by omega)]
      simp [Lib.byteCells, List.getD, List.getElem?_eq_getElem hi]) 9 Tryz.underlying9]
    congr 2
    refine ba_ext ?_
    rw [strOfNums_data, str_list, List.map_map]
    conv => rhs; rw [← List.map_id sd]
    apply List.map_congr_left
    intro c _
    simp

theorem sgn_len (l : List UInt8) : ∀ c n, sgn l = some (c, n) → 1 ≤ n ∧ n ≤ l.length := by
  intro c n e
  cases l with
  | nil => cases e
  | cons d l =>
    rw [sgn_cons] at e
    by_cases h2 : d = 92
    · rw [if_pos h2] at e
      cases l with
      | nil => cases e
      | cons d' l' =>
        simp only [Option.map_eq_some_iff, Prod.mk.injEq] at e
        obtain ⟨_, _, _, rfl⟩ := e
        simp
    · rw [if_neg h2] at e
      by_cases h3 : prB (d.toNat : Int) = true
      · rw [if_pos h3] at e; simp at e; simp; omega
      · rw [if_neg h3] at e; cases e

set_option maxHeartbeats 800000 in
set_option maxRecDepth 100000 in
theorem unquote_any (s : ByteArray) (w : World) (hs : s.size ≤ 2000000000000) (uq : Option (List UInt8 × Nat)) (HU : Hid (unquote s.data.toList = uq)) :
    Calls Tryz.prog 86 #[.string s] w fun x w' => x = .returned (unqV uq) ∧ Below w.heap.size w w' := by
  have hq0 := QS.start s w
  go_enter Tryz.func86, Tryz.ntmps86
  go_wp2_with (go_at_call 25; refine (new_any s w).mono ?_; rintro x w1 ⟨rfl, rfl⟩)
  by_cases h34 : s.data.toList.head? = some 34
  · obtain ⟨l, hl⟩ : ∃ l, s.data.toList = 34 :: l := by
      cases hh : s.data.toList with
      | nil => rw [hh] at h34; cases h34
      | cons c l => rw [hh] at h34; simp at h34; exact ⟨l, by rw [h34]⟩
    have hsz : 0 < s.size := by rw [← len_eq, hl]; simp
    have HQ : Hid ((unq (s.data.toList.drop 1)).map (fun y => (([] : List UInt8) ++ y.1, y.2 + 1)) = uq) := by
      show _ = _
      rw [← HU.out, hl]; rfl
    have HPR : Hid (Lib.hasPrefix (s.data.toList.drop 0) (ByteArray.mk #[34]).data.toList = true) := by
      show Lib.hasPrefix _ [34] = true
      rw [hl]; rfl
    clear hl h34 HU
    refine (take_yes w.heap.size s _ 0 _ hq0.cur hs HPR.out).mono ?_
    rintro x w1 ⟨rfl, hc1, ho1⟩
    have hq1 : QS w1 w.heap.size s 1 [] := hq0.oth ho1 hc1
    have hB1 : Below w.heap.size w w1 := (((Below.refl _ _).alloc (Nat.le_refl _) _).alloc (by simp) _).trans (ho1.below (Nat.le_refl _))
    clear hc1 ho1 hq0 HPR
    go_wp2_with fail
    go_loopg [13] (s.size - 1) (fun g _ wr => ∃ (p : Nat) (sd : List UInt8), p ≤ s.size ∧ g = s.size - p ∧ sd.length ≤ p ∧ QS wr w.heap.size s p sd ∧ Below w.heap.size w wr ∧ Hid ((unq (s.data.toList.drop p)).map (fun y => (sd ++ y.1, y.2 + p)) = uq))
    case atStart => exact ⟨1, [], by omega, rfl, by simp, hq1, hB1, HQ⟩
    case round =>
      obtain ⟨p, sd, hp, rfl, hsd, hq, hB, HQ1⟩ := hrel
      clear hq1 hB1 HQ
      have c0 := hq.c0
      by_cases h34 : (s.data.toList.drop p).head? = some 34
      · obtain ⟨l, hl⟩ : ∃ l, s.data.toList.drop p = 34 :: l := by
          cases hh : s.data.toList.drop p with
          | nil => rw [hh] at h34; cases h34
          | cons c l => rw [hh] at h34; simp at h34; exact ⟨l, by rw [h34]⟩
        have HPR : Hid (Lib.hasPrefix (s.data.toList.drop p) (ByteArray.mk #[34]).data.toList = true) := by
          show Lib.hasPrefix _ [34] = true
          rw [hl]; rfl
        have HR : Hid (uq = some (sd, p + 1)) := by
          show _ = _
          rw [← HQ1.out, hl, unq_cons]; simp; omega
        clear HQ1 hl h34
        go_wp2_with fail
        refine (take_yes w.heap.size s _ p _ hq.cur hs HPR.out).mono ?_
        rintro x w2 ⟨rfl, hc2, ho2⟩
        have hc2 : IsCur w2 w.heap.size s (p + 1) := hc2
        have hq2 := hq.oth ho2 hc2
        have hB2 : Below w.heap.size w w2 := hB.trans (ho2.below (Nat.le_refl _))
        obtain ⟨v, c1, hcv⟩ := hq2.said
        have hcv1 := hcv w2.drew rfl
        have c2 := hq2.c0
        clear hq hB c0 ho2 HPR hcv
        go_wp2_with fail
        go_region_with (go_at_call 109; refine (at_any w.heap.size s (p + 1) _ (by exact hc2.of_block rfl)).mono ?_; rintro x w3 ⟨rfl, rfl⟩)
        all_goals
          go_wp2_with fail
          go_ret3
          exact ⟨by rw [HR.out]; rfl, hB2.drew⟩
      · have HPR : Hid (Lib.hasPrefix (s.data.toList.drop p) (ByteArray.mk #[34]).data.toList = false) := by
          show Lib.hasPrefix _ [34] = false
          cases hh : s.data.toList.drop p with
          | nil => rfl
          | cons c l => rw [hh] at h34; simp at h34; simp [Lib.hasPrefix, List.isPrefixOf]; exact fun e => h34 e.symm
        have HST : Hid (unq (s.data.toList.drop p) = match sgn (s.data.toList.drop p) with | none => none | some (c, n) => (unq ((s.data.toList.drop p).drop n)).map fun y => (c :: y.1, y.2 + n)) := unq_step _ h34
        have HSL := sgn_len (s.data.toList.drop p)
        rw [List.length_drop, len_eq] at HSL
        clear h34
        go_wp2_with fail
        refine (take_no w.heap.size s _ p _ hq.cur hs HPR.out).mono ?_
        rintro x w2 ⟨rfl, n, rfl⟩
        have hq2 : QS (wr.drewN n) w.heap.size s p sd := hq.oth (Oth.drewN _ _ n) (hq.cur.drewN n)
        have hB2 : Below w.heap.size w (wr.drewN n) := hB.trans ((Oth.drewN w.heap.size _ n).below (Nat.le_refl _))
        clear hq hB c0 HPR
        go_wp2_with fail
        refine (sign_any w.heap.size s p sd _ hq2 hs (by omega)).mono ?_
        rintro x w3 ⟨rfl, hb3, hq3⟩
        have hB3 := hB2.trans hb3
        cases hsg : sgn (s.data.toList.drop p) with
        | none =>
          have HN : Hid (uq = none) := by
            show _ = _
            rw [← HQ1.out, HST.out, hsg]; rfl
          clear hsg HQ1 HST HSL hq3
          go_wp2_with fail
          go_ret3
          exact ⟨by rw [HN.out]; rfl, hB3⟩
        | some y =>
          obtain ⟨c, m⟩ := y
          have hq4 := hq3 c m hsg
          obtain ⟨hm1, hm2⟩ := HSL c m hsg
          have HQ2 : Hid ((unq (s.data.toList.drop (p + m))).map (fun y => ((sd ++ [c]) ++ y.1, y.2 + (p + m))) = uq) := by
            show _ = _
            rw [← HQ1.out, HST.out, hsg]
            simp only [List.drop_drop]
            cases unq (s.data.toList.drop (p + m)) with
            | none => rfl
            | some z => simp; omega
          clear hsg HQ1 HST HSL hq3
          go_wp2_with fail
          go_roundg (s.size - (p + m))
          case measure => omega
          case rel => exact ⟨p + m, sd ++ [c], by omega, rfl, by simp; omega, hq4, hB3, HQ2⟩
  · have HN : Hid (uq = none) := by
      show _ = _
      rw [← HU.out]
      cases hh : s.data.toList with
      | nil => rfl
      | cons c l => rw [hh] at h34; simp at h34; simp [unquote, h34]
    have HPR : Hid (Lib.hasPrefix (s.data.toList.drop 0) (ByteArray.mk #[34]).data.toList = false) := by
      show Lib.hasPrefix _ [34] = false
      rw [List.drop_zero]
      cases hh : s.data.toList with
      | nil => rfl
      | cons c l => rw [hh] at h34; simp at h34; simp [Lib.hasPrefix, List.isPrefixOf]; exact fun e => h34 e.symm
    refine (take_no w.heap.size s _ 0 _ hq0.cur hs HPR.out).mono ?_
    rintro x w1 ⟨rfl, n, rfl⟩
    go_wp2_with fail
    go_ret3
    exact ⟨by rw [HN.out]; rfl, (((Below.refl _ _).alloc (Nat.le_refl _) _).alloc (by simp) _).trans ((Oth.drewN w.heap.size _ n).below (Nat.le_refl _))⟩

end Go.Proofs.YtnmmhihfnphjeaaGreatDoor.W
