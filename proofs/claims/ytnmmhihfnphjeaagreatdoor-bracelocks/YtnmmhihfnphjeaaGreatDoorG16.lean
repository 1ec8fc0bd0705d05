/-
  The reader's state; what may turn beneath a call of it; values as they lie in memory.
  Contracts of the reader's rest, pass, quoted.
  Plain mathematics of the row of digits that a text begins with.
-/
import Derived.Test.YtnmmhihfnphjeaaGreatDoorG12
import Derived.Test.YtnmmhihfnphjeaaGreatDoorG04
import Derived.Test.YtnmmhihfnphjeaaGreatDoorG15
import Derived.Test.YtnmmhihfnphjeaaGreatDoorG07
import Derived.Deep.RegionWith
import Derived.Deep.QuietTactic

namespace Go.Proofs.YtnmmhihfnphjeaaGreatDoor.B
set_option linter.unusedSimpArgs false
set_option linter.unusedVariables false
open Go.RowKit Go.Vr Go.Sort Go.Tx Go.Lib
open Go.Br hiding Bs
open Go.Proofs.YtnmmhihfnphjeaaGreatDoor.W (IsCur Oth Kept)
attribute [local go_sem] setCellDrewN allocDrewN

/-- Blocks below B, but for b and c, are as they were. -/
structure Fr (B b c : Nat) (w w' : World) : Prop where
  os : w'.os = w.os
  tape : w'.tape = w.tape
  output : w'.output = w.output
  size : w.heap.size ≤ w'.heap.size
  block : ∀ k, k < B → k ≠ b → k ≠ c → w'.heap[k]? = w.heap[k]?
theorem Fr.refl (B b c : Nat) (w : World) : Fr B b c w w := ⟨rfl, rfl, rfl, Nat.le_refl _, fun _ _ _ _ => rfl⟩
theorem Fr.trans {B b c : Nat} {w w' w'' : World} (h : Fr B b c w w') (k : Fr B b c w' w'') : Fr B b c w w'' :=
  ⟨k.os.trans h.os, k.tape.trans h.tape, k.output.trans h.output, Nat.le_trans h.size k.size, fun i hi hb hc => (k.block i hi hb hc).trans (h.block i hi hb hc)⟩
theorem Fr.mono {B B' b c : Nat} {w w' : World} (h : Fr B b c w w') (hB : B' ≤ B) : Fr B' b c w w' := ⟨h.os, h.tape, h.output, h.size, fun k hk => h.block k (Nat.lt_of_lt_of_le hk hB)⟩
theorem Fr.ofBelow {B b c : Nat} {w w' : World} (h : Below B w w') : Fr B b c w w' := ⟨h.os, h.tape, h.output, h.size, fun k hk _ _ => h.block k hk⟩
theorem Fr.ofOth {B b c : Nat} {w w' : World} (h : Oth c w w') : Fr B b c w w' := ⟨h.os, h.tape, h.output, by rw [h.size]; exact Nat.le_refl _, fun k _ _ hc => h.block k hc⟩
theorem Fr.ofKept {B b c : Nat} {w w' : World} (h : Kept c w w') (hB : B ≤ w.heap.size) : Fr B b c w w' := ⟨h.os, h.tape, h.output, h.size, fun k hk _ hc => h.block k (by omega) hc⟩
theorem Fr.below {B b c : Nat} {w w' : World} (h : Fr B b c w w') (hb : B ≤ b) (hc : B ≤ c) : Below B w w' := ⟨h.os, h.tape, h.output, h.size, fun k hk => h.block k hk (by omega) (by omega)⟩
theorem Fr.setCell {B b c : Nat} {w w' : World} (h : Fr B b c w w') (N o : Nat) (v : Value) (hN : B ≤ N ∨ N = b ∨ N = c) : Fr B b c w (w'.setCell ⟨N, o, none⟩ v) :=
  ⟨h.os, h.tape, h.output, by simp [World.setCell]; exact h.size, fun k hk hb hc => (Below.heap_setCell _ _ _ _ (by show k ≠ N; rcases hN with h | h | h <;> omega)).trans (h.block k hk hb hc)⟩
theorem Fr.grown {B b c : Nat} {w w' w'' : World} {r : Option Nat} (h : Fr B b c w w') (hg : w'.grownBy w'' r) (hB : B ≤ w'.heap.size) (hr : ∀ k, r = some k → B ≤ k) : Fr B b c w w'' :=
  ⟨hg.os.trans h.os, hg.tape.trans h.tape, hg.output.trans h.output, Nat.le_trans h.size hg.size, fun k hk hb hc => (hg.block k (by omega) (fun e => by have := hr k e.symm; omega)).trans (h.block k hk hb hc)⟩

/-- The reader in block b: its cursor (block c) is behind p bytes of s; it is within dp others. -/
structure Rd (w : World) (b c : Nat) (s : ByteArray) (p dp : Nat) : Prop where
  cur : IsCur w c s p
  box : Box w b #[.pointer (some ⟨c, 0, none⟩), .string s, .int .i64 dp]
  ne : c ≠ b
theorem Rd.below {w w' : World} {b c p dp : Nat} {s : ByteArray} (h : Rd w b c s p dp) (hb : Below w.heap.size w w') : Rd w' b c s p dp := ⟨h.cur.below hb, h.box.later hb, h.ne⟩
theorem Rd.of_blocks {w w' : World} {b c p dp : Nat} {s : ByteArray} (h : Rd w b c s p dp) (e1 : w'.heap[b]? = w.heap[b]?) (e2 : w'.heap[c]? = w.heap[c]?) : Rd w' b c s p dp := ⟨h.cur.of_block e2, h.box.of_block e1, h.ne⟩
theorem Rd.drewN {w : World} {b c p dp : Nat} {s : ByteArray} (h : Rd w b c s p dp) (n : Nat) : Rd (w.drewN n) b c s p dp := ⟨h.cur.drewN n, h.box.drewN n, h.ne⟩
theorem Rd.oth {w w' : World} {b c p q dp : Nat} {s : ByteArray} (h : Rd w b c s p dp) (hc : IsCur w' c s q) (ho : Oth c w w') : Rd w' b c s q dp := ⟨hc, h.box.of_block (ho.block b (fun e => h.ne e.symm)), h.ne⟩
theorem Rd.kept {w w' : World} {b c p q dp : Nat} {s : ByteArray} (h : Rd w b c s p dp) (hc : IsCur w' c s q) (ho : Kept c w w') : Rd w' b c s q dp := ⟨hc, h.box.of_block (ho.block b h.box.lt (fun e => h.ne e.symm)), h.ne⟩
theorem Rd.set {w : World} {b c p dp dq : Nat} {s : ByteArray} (h : Rd w b c s p dp) : Rd (w.setCell ⟨b, 2, none⟩ (.int .i64 dq)) b c s p dq :=
  ⟨h.cur.of_block (Below.heap_setCell _ _ _ _ h.ne), h.box.set 2 _ (by simp), h.ne⟩
theorem Rd.under {w w' : World} {B b c p dp : Nat} {s : ByteArray} (h : Rd w b c s p dp) (hb : Below B w w') (h1 : b < B) (h2 : c < B) : Rd w' b c s p dp := h.of_blocks (hb.block b h1) (hb.block c h2)
theorem Rd.le {w : World} {b c p dp : Nat} {s : ByteArray} (h : Rd w b c s p dp) : p ≤ s.size := h.cur.le
theorem Rd.lt {w : World} {b c p dp : Nat} {s : ByteArray} (h : Rd w b c s p dp) : b < w.heap.size ∧ c < w.heap.size := ⟨h.box.lt, h.cur.lt⟩

/-- What is left of the text. -/
abbrev rst (s : ByteArray) (p : Nat) : Bs := s.data.toList.drop p
theorem rst_len (s : ByteArray) (p : Nat) : (rst s p).length = s.size - p := by rw [List.length_drop, len_eq]

/-- A value's five cells. -/
structure SV where
  k : Int
  n : Int
  s : ByteArray
  ka : Option Addr
  kn : Nat
  kc : Nat
  la : Option Addr
  ln : Nat
  lc : Nat
abbrev SV.cells (v : SV) : Array Value := #[.int .i64 v.k, .int .i64 v.n, .string v.s, .slice v.ka v.kn v.kc, .slice v.la v.ln v.lc]
abbrev SV.val (v : SV) : Value := .agg v.cells
def SV.zero : SV := ⟨0, 0, ⟨#[]⟩, none, 0, 0, none, 0, 0⟩
def EV : El SV where
  enc := fun v => [.int .i64 v.k, .int .i64 v.n, .string v.s, .slice v.ka v.kn v.kc, .slice v.la v.ln v.lc]
  k := 5
  T := 28
  TS := 26
  z := .agg #[.int .i64 0, .int .i64 0, .string ⟨#[]⟩, .slice none 0 0, .slice none 0 0]
  bytes := 80
  hk := fun _ => rfl
  one := by
    intro x u hu
    simp only [List.mem_cons, List.not_mem_nil, or_false] at hu
    rcases hu with rfl | rfl | rfl | rfl | rfl <;> rfl
  ht := Tryz.underlying26
  hi := ⟨Tryz.t28, by kernel_rfl, by kernel_rfl, by kernel_rfl, by kernel_rfl⟩
  hzs := by kernel_rfl
  hk0 := by decide
  hby := by decide
def ET : El Bs where
  enc := fun v => [.string (str v)]
  k := 1
  T := 9
  TS := 25
  z := .string ⟨#[]⟩
  bytes := 16
  hk := fun _ => rfl
  one := by
    intro x u hu
    simp only [List.mem_cons, List.not_mem_nil, or_false] at hu
    rcases hu with rfl; rfl
  ht := Tryz.underlying25
  hi := ⟨Tryz.t9, by kernel_rfl, by kernel_rfl, by kernel_rfl, by kernel_rfl⟩
  hzs := by kernel_rfl
  hk0 := by decide
  hby := by decide

/-- Two rows, member by member. -/
def All2 {α β : Type} (P : α → β → Prop) : List α → List β → Prop
  | [], [] => True
  | x :: l, y :: k => P x y ∧ All2 P l k
  | _, _ => False
theorem All2.len {α β : Type} {P : α → β → Prop} : ∀ {l : List α} {k : List β}, All2 P l k → l.length = k.length
  | [], [], _ => rfl
  | _ :: _, _ :: _, h => by simp [All2.len h.2]
theorem All2.mono {α β : Type} {P Q : α → β → Prop} (hPQ : ∀ x y, P x y → Q x y) : ∀ {l : List α} {k : List β}, All2 P l k → All2 Q l k
  | [], [], _ => trivial
  | _ :: _, _ :: _, h => ⟨hPQ _ _ h.1, All2.mono hPQ h.2⟩
theorem All2.snoc {α β : Type} {P : α → β → Prop} {x : α} {y : β} (hx : P x y) : ∀ {l : List α} {k : List β}, All2 P l k → All2 P (l ++ [x]) (k ++ [y])
  | [], [], _ => ⟨hx, trivial⟩
  | _ :: _, _ :: _, h => ⟨h.1, All2.snoc hx h.2⟩
theorem All2.at_ {α β : Type} {P : α → β → Prop} : ∀ {l : List α} {k : List β}, All2 P l k → ∀ (i : Nat) (x : α), l[i]? = some x → ∃ y, k[i]? = some y ∧ P x y
  | x :: _, y :: _, h, 0, z, e => by
    obtain rfl : x = z := by simpa using e
    exact ⟨y, rfl, h.1⟩
  | _ :: _, _ :: _, h, i + 1, z, e => by
    obtain ⟨y, e2, hy⟩ := All2.at_ h.2 i z (by simpa using e)
    exact ⟨y, by simpa using e2, hy⟩

/-- A leaf's cells. -/
def leafSV : Leaf → SV
  | .inl s => ⟨1, 0, str s, none, 0, 0, none, 0, 0⟩
  | .inr (.inl n) => ⟨2, n, ⟨#[]⟩, none, 0, 0, none, 0, 0⟩
  | .inr (.inr true) => ⟨3, 1, ⟨#[]⟩, none, 0, 0, none, 0, 0⟩
  | .inr (.inr false) => ⟨3, 0, ⟨#[]⟩, none, 0, 0, none, 0, 0⟩

/-- A row of elements that is there, in a block of the set Q. -/
structure QRow {α : Type} (E : El α) (w : World) (Q : Nat → Prop) (a : Option Addr) (n c : Nat) (l : List α) : Prop where
  row : ERow E w a n l
  le : n ≤ c
  mx : c ≤ maxLen
  blk : ∀ x, a = some x → 0 < n → Q x.block
theorem QRow.keep {α : Type} {E : El α} {w w' : World} {Q Q' : Nat → Prop} {a : Option Addr} {n c : Nat} {l : List α} (h : QRow E w Q a n c l)
    (hk : ∀ k, Q k → k < w.heap.size → w'.heap[k]? = w.heap[k]?) (hQ : ∀ k, Q k → k < w.heap.size → Q' k) : QRow E w' Q' a n c l := by
  refine ⟨⟨h.row.n, h.row.nil, fun x e j v hj => ?_⟩, h.le, h.mx, fun x e h0 => ?_⟩
  · have h0 : 0 < n := by
      have := (List.getElem?_eq_some_iff.1 hj).1
      rw [E.encs_len, h.row.n] at this
      exact Nat.pos_of_ne_zero fun e => by rw [e, Nat.zero_mul] at this; omega
    have hc := h.row.cell x e j v hj
    have hl : (x.add j).block < w.heap.size := World.block_lt_of_cell? _ _ hc
    have hxb : (x.add j).block = x.block := by unfold Addr.add; split <;> rfl
    rw [World.cell?_of_block (hk _ (by rw [hxb]; exact h.blk x e h0) hl)]
    exact hc
  · obtain ⟨b, off, e2⟩ := h.row.spot h0
    have hx : x = ⟨b, off, none⟩ := by rw [e] at e2; exact Option.some.inj e2
    refine hQ _ (h.blk x e h0) ?_
    subst hx
    subst e
    exact h.row.lt h0

/-- A value as it lies in memory, its rows in blocks of the set Q. -/
def VH (w : World) (Q : Nat → Prop) : (d : Nat) → Val d → SV → Prop
  | 0, x, v => v = leafSV x
  | _ + 1, Sum.inl x, v => v = leafSV x
  | d + 1, Sum.inr (Sum.inl l), v => (v.k = 4 ∧ v.n = 0 ∧ v.s = ⟨#[]⟩ ∧ v.ka = none ∧ v.kn = 0 ∧ v.kc = 0) ∧ ∃ us, QRow EV w Q v.la v.ln v.lc us ∧ All2 (VH w Q d) l us
  | d + 1, Sum.inr (Sum.inr l), v => (v.k = 5 ∧ v.n = 0 ∧ v.s = ⟨#[]⟩) ∧ QRow ET w Q v.ka v.kn v.kc (l.map Prod.fst) ∧ ∃ us, QRow EV w Q v.la v.ln v.lc us ∧ All2 (VH w Q d) (l.map Prod.snd) us

theorem VH.keep {w w' : World} {Q Q' : Nat → Prop} (hk : ∀ k, Q k → k < w.heap.size → w'.heap[k]? = w.heap[k]?) (hQ : ∀ k, Q k → k < w.heap.size → Q' k) : ∀ {d : Nat} {x : Val d} {v : SV}, VH w Q d x v → VH w' Q' d x v
  | 0, _, _, h => h
  | _ + 1, Sum.inl _, _, h => h
  | d + 1, Sum.inr (Sum.inl l), v, ⟨h1, us, h2, h3⟩ => ⟨h1, us, h2.keep hk hQ, h3.mono fun _ _ h => VH.keep hk hQ h⟩
  | d + 1, Sum.inr (Sum.inr l), v, ⟨h1, h0, us, h2, h3⟩ => ⟨h1, h0.keep hk hQ, us, h2.keep hk hQ, h3.mono fun _ _ h => VH.keep hk hQ h⟩
theorem VH.below {w w' : World} {Q : Nat → Prop} {d : Nat} {x : Val d} {v : SV} (h : VH w Q d x v) (hb : Below w.heap.size w w') : VH w' Q d x v := h.keep (fun k _ hk => hb.block k hk) (fun _ h _ => h)
theorem VH.leaf {w : World} {Q : Nat → Prop} {d : Nat} (x : Leaf) : VH w Q (d + 1) (Sum.inl x) (leafSV x) := rfl

end Go.Proofs.YtnmmhihfnphjeaaGreatDoor.B

namespace Go.Proofs.YtnmmhihfnphjeaaGreatDoor.B
set_option linter.unusedSimpArgs false
set_option linter.unusedVariables false
open Go.RowKit Go.Vr Go.Sort Go.Tx Go.Lib
open Go.Br hiding Bs
open Go.Proofs.YtnmmhihfnphjeaaGreatDoor.W (IsCur Oth Kept at_any take_yes take_any while_any unquote_any unqV inSet)
attribute [local go_sem] setCellDrewN allocDrewN

set_option maxHeartbeats 400000 in
theorem rest_rd (b c : Nat) (s : ByteArray) (p dp : Nat) (w : World) (h : Rd w b c s p dp) (hs : s.size ≤ 100000) :
    Calls Tryz.prog 87 #[.pointer (some ⟨b, 0, none⟩)] w fun x w' => x = .returned (.string (s.extract p s.size)) ∧ ∃ n, w' = w.drewN n := by
  have hc := h.box.c
  have hl := h.le
  have i1 : (0 : Int) ≤ (p : Int) := by omega
  have i2 : (p : Int) ≤ (s.size : Int) := by omega
  have HC := hide h.cur
  clear h
  go_enter Tryz.func87, Tryz.ntmps87
  go_wp2_with fail
  go_quiet ((go_at_call 109; exact Calls.quiet_of_same (at_any c s p _ (HC.out.drewN _))))
  go_wp2_with fail
  go_ret
  exact ⟨rfl, _, rfl⟩

theorem cut_pre (s : ByteArray) (p n : Nat) (hn : n ≤ s.size - p) : Lib.hasPrefix (s.data.toList.drop p) ((s.extract p s.size).extract 0 n).data.toList = true ∧ ((s.extract p s.size).extract 0 n).size = n := by
  have e : ((s.extract p s.size).extract 0 n).data.toList = (s.data.toList.drop p).take n := by rw [W.ext_list, W.rest_list]
  refine ⟨?_, ?_⟩
  · rw [e]
    exact List.isPrefixOf_iff_prefix.2 (List.take_prefix _ _)
  · rw [← len_eq, e, List.length_take, List.length_drop, len_eq]; omega

set_option maxHeartbeats 400000 in
theorem pass_rd (b c : Nat) (s : ByteArray) (p dp n : Nat) (w : World) (h : Rd w b c s p dp) (hs : s.size ≤ 100000) (hn : n ≤ s.size - p) :
    Calls Tryz.prog 88 #[.pointer (some ⟨b, 0, none⟩), .int .i64 n] w fun x w' => x = .returned (.tuple #[]) ∧ Rd w' b c s (p + n) dp ∧ Oth c w w' := by
  have hc := h.box.c
  have hl := h.le
  obtain ⟨hp, hz⟩ := cut_pre s p n hn
  have hz0 : (s.extract p s.size).size = s.size - p := by rw [← len_eq, W.rest_list, List.length_drop, len_eq]
  have HP := hide hp
  have HZ := hide hz
  have i1 : (0 : Int) ≤ (n : Int) := by omega
  have i2 : (n : Int) ≤ ((s.extract p s.size).size : Int) := by rw [hz0]; omega
  have HR := hide h
  clear h hp hz hz0
  go_enter Tryz.func88, Tryz.ntmps88
  generalize hr : (s.extract p s.size).extract 0 n = r at *
  go_wp2_with fail
  go_region_with (first | (go_at_call 87; refine (rest_rd b c s p dp _ (by first | exact HR.out | exact HR.out.drewN _ | exact HR.out.of_blocks rfl rfl) hs).mono ?_; rintro x w2 ⟨rfl, m, rfl⟩) | (go_at_call 77; refine (take_yes c s r p _ (by first | exact HR.out.cur | exact HR.out.cur.drewN _ | exact HR.out.cur.of_block rfl) (by omega) HP.out).mono ?_; rintro x w2 ⟨rfl, hc2, ho2⟩))
  all_goals
    go_wp2_with fail
    first | go_end0 | skip
    have HO : Oth c w w2 := ⟨ho2.os, ho2.tape, ho2.output, ho2.size, fun k hk => ho2.block k hk⟩
    exact ⟨rfl, HR.out.oth (by rw [← HZ.out]; exact hc2) HO, HO⟩

/-- Where reading has come to: behind p' bytes. -/
def Good (b c : Nat) (s : ByteArray) (p dp : Nat) (w' : World) (q : Bs) : Prop := ∃ p', p ≤ p' ∧ rst s p' = q ∧ Rd w' b c s p' dp
def Bad (b c : Nat) (s : ByteArray) (w' : World) (q : Bs) : Prop := ∃ p' dq, rst s p' = q ∧ Rd w' b c s p' dq
theorem Good.below {b c p dp : Nat} {s : ByteArray} {w w' : World} {q : Bs} (h : Good b c s p dp w q) (hb : Below w.heap.size w w') : Good b c s p dp w' q := by
  obtain ⟨p', h1, h2, h3⟩ := h; exact ⟨p', h1, h2, h3.below hb⟩
theorem Bad.below {b c : Nat} {s : ByteArray} {w w' : World} {q : Bs} (h : Bad b c s w q) (hb : Below w.heap.size w w') : Bad b c s w' q := by
  obtain ⟨p', dq, h2, h3⟩ := h; exact ⟨p', dq, h2, h3.below hb⟩

theorem rst_drop (s : ByteArray) (p n : Nat) : (rst s p).drop n = rst s (p + n) := by rw [List.drop_drop]
theorem unquote_le (l o : Bs) (n : Nat) (h : unquote l = some (o, n)) : n ≤ l.length := by
  cases l with
  | nil => cases h
  | cons c t =>
    rw [unquote.eq_def] at h
    simp only at h
    by_cases hc : c = 34
    · rw [if_pos hc] at h
      simp only [Option.map_eq_some_iff, Prod.mk.injEq] at h
      obtain ⟨⟨o', m'⟩, he, _, rfl⟩ := h
      have := (unq_len t.length t o' m' (Nat.le_refl _) he).2
      simp; omega
    · rw [if_neg hc] at h; cases h
theorem box_set5 {w : World} {N : Nat} {y0 y1 y2 y3 y4 : Value} (h : Box w N #[y0, y1, y2, y3, y4]) (x0 x1 x2 x3 x4 : Value) :
    Box (((((w.setCell ⟨N, 0, none⟩ x0).setCell ⟨N, 1, none⟩ x1).setCell ⟨N, 2, none⟩ x2).setCell ⟨N, 3, none⟩ x3).setCell ⟨N, 4, none⟩ x4) N #[x0, x1, x2, x3, x4] ∧
    ∀ B, B ≤ N → Below B w (((((w.setCell ⟨N, 0, none⟩ x0).setCell ⟨N, 1, none⟩ x1).setCell ⟨N, 2, none⟩ x2).setCell ⟨N, 3, none⟩ x3).setCell ⟨N, 4, none⟩ x4) := by
  refine ⟨((((h.set 0 x0 (by simp)).set 1 x1 (by simp)).set 2 x2 (by simp)).set 3 x3 (by simp)).set 4 x4 (by simp), fun B hB => ?_⟩
  exact (((((Below.refl B w).setCell hB _).setCell hB _).setCell hB _).setCell hB _).setCell hB _

/-- How quoted ends. -/
def QPost (b c : Nat) (s : ByteArray) (p dp : Nat) (w : World) (r : R Bs) (e : Ending) (w' : World) : Prop := Fr w.heap.size b c w w' ∧ match r with
  | .inl (t, q) => Good b c s p dp w' q ∧ e = .returned (.tuple #[(leafSV (.inl t)).val, .int .i64 0])
  | .inr (n, q) => n = 1 ∧ Bad b c s w' q ∧ e = .returned (.tuple #[SV.zero.val, .int .i64 1])

set_option maxHeartbeats 1000000 in
theorem quoted_rd (b c : Nat) (s : ByteArray) (p dp : Nat) (w : World) (h : Rd w b c s p dp) (hs : s.size ≤ 100000) :
    Calls Tryz.prog 74 #[.pointer (some ⟨b, 0, none⟩)] w (QPost b c s p dp w (quotedM (rst s p))) := by
  obtain ⟨hbl, hcl⟩ := h.lt
  have HR := hide h
  clear h
  have h0 : Below w.heap.size w (w.alloc (.cells #[.int .i64 0, .int .i64 0, .string ⟨#[]⟩, .slice none 0 0, .slice none 0 0] 28)) := (Below.refl _ _).alloc (Nat.le_refl _) _
  have X0 := Box.new w #[.int .i64 0, .int .i64 0, .string ⟨#[]⟩, .slice none 0 0, .slice none 0 0] 28
  have H0 := hide h0
  have hX0 := hide X0
  clear h0 X0
  go_enter Tryz.func74, Tryz.ntmps74
  go_wp2_with fail
  refine (rest_rd b c s p dp _ (HR.out.below H0.out) hs).mono ?_
  rintro e w1 ⟨rfl, n, rfl⟩
  obtain ⟨uq, HU⟩ : ∃ uq, Hid (unquote (s.extract p s.size).data.toList = uq) := ⟨_, rfl⟩
  have HU2 : Hid (unquote (rst s p) = uq) := by have := HU.out; rw [W.rest_list] at this; exact this
  go_wp2_with fail
  refine (unquote_any (s.extract p s.size) _ (by rw [← len_eq, W.rest_list, List.length_drop, len_eq]; omega) uq HU).mono ?_
  rintro e w2 ⟨rfl, b2⟩
  have B2 := H0.out.trans (((belDrewN _ n).trans (b2.mono (Nat.le_refl _))).mono H0.out.size)
  have R2 := hide (HR.out.below B2)
  have X2 := hide ((hX0.out.drewN n).later b2)
  have HB2 := hide B2
  clear b2 B2 hX0 H0
  cases uq with
  | none =>
    have hq : quotedM (rst s p) = .inr (1, rst s p) := by unfold quotedM; rw [HU2.out]
    have HQ := hide hq
    have xc := X2.out.c
    have xf := X2.out.f
    clear hq
    unfold unqV
    go_wp2_with fail
    obtain ⟨xs, xb⟩ := box_set5 X2.out (.int .i64 0) (.int .i64 0) (.string ⟨#[]⟩) (.slice none 0 0) (.slice none 0 0)
    have xd := xs.c
    have B3 := HB2.out.trans (xb _ (Nat.le_refl _))
    exact bodyPost_ret (v := .tuple #[.agg #[.int .i64 0, .int .i64 0, .string ⟨#[]⟩, .slice none 0 0, .slice none 0 0], .int .i64 1]) (by simp [results, Tryz.results74, go_sem, *]) rfl (by unfold QPost; rw [HQ.out]; exact ⟨Fr.ofBelow B3, rfl, ⟨p, dp, rfl, HR.out.below B3⟩, rfl⟩)
  | some y =>
    obtain ⟨o, m⟩ := y
    have hm := unquote_le _ _ _ HU2.out
    rw [rst_len] at hm
    unfold unqV
    go_wp2_with fail
    refine (pass_rd b c s p dp m _ R2.out hs hm).mono ?_
    rintro e w3 ⟨rfl, R3, O3⟩
    have X3 := X2.out.of_block (O3.block w.heap.size (by omega))
    have hq : quotedM (rst s p) = .inl (o, rst s (p + m)) := by unfold quotedM; rw [HU2.out, ← rst_drop]
    have HQ := hide hq
    have xc := X3.c
    have xf := X3.f
    have HR3 := hide R3
    have HO3 := hide O3
    clear hq R3 O3
    go_wp2_with fail
    obtain ⟨xs, xb⟩ := box_set5 X3 (.int .i64 1) (.int .i64 0) (.string (str o)) (.slice none 0 0) (.slice none 0 0)
    have xd := xs.c
    exact bodyPost_ret (v := .tuple #[.agg #[.int .i64 1, .int .i64 0, .string (str o), .slice none 0 0, .slice none 0 0], .int .i64 0]) (by simp [results, Tryz.results74, go_sem, *]) rfl (by unfold QPost; rw [HQ.out]; exact ⟨((Fr.ofBelow HB2.out).trans (Fr.ofOth HO3.out)).trans (Fr.ofBelow (xb _ (Nat.le_refl _))), ⟨p + m, by omega, rfl, HR3.out.under (xb w.heap.size (Nat.le_refl _)) hbl hcl⟩, rfl⟩)

end Go.Proofs.YtnmmhihfnphjeaaGreatDoor.B

namespace Go.Br
set_option linter.unusedVariables false
open Go.Tx Go.Lib

theorem tw_take (f : UInt8 → Bool) : ∀ (l : Bs) (i : Nat), (∀ j c, j < i → l[j]? = some c → f c = true) → (∀ c, l[i]? = some c → f c = false) → i ≤ l.length → l.takeWhile f = l.take i
  | [], i, _, _, h => by
    obtain rfl : i = 0 := by simpa using h
    rfl
  | c :: t, 0, _, hs, _ => by
    rw [List.takeWhile_cons, hs c rfl]; rfl
  | c :: t, i + 1, ha, hs, h => by
    rw [List.takeWhile_cons, ha 0 c (by omega) rfl, if_pos rfl, List.take_succ_cons]
    rw [tw_take f t i (fun j d hj hd => ha (j + 1) d (by omega) (by simpa using hd)) (fun d hd => hs d (by simpa using hd)) (by simpa using h)]

/-- May a sign stand at place i of the row? -/
def rowC (i : Nat) (c : UInt8) : Bool := (c == 45 && i == 0) || isDig c

theorem row_stop (l : Bs) (i : Nat) (h : i ≤ l.length) (ha : ∀ j c, j < i → l[j]? = some c → rowC j c = true) (hs : ∀ c, l[i]? = some c → rowC i c = false) : rowM l = l.take i := by
  cases l with
  | nil => simp [rowM]
  | cons c t =>
    unfold rowM
    simp only
    have hd : ∀ j d, 0 < j → rowC j d = isDig d := fun j d hj => by
      unfold rowC
      rw [show (j == 0) = false by simp; omega]; simp
    by_cases hc : c = 45
    · rw [if_pos hc]
      cases i with
      | zero =>
        have := hs c rfl
        rw [hc] at this
        exact absurd this (by decide)
      | succ i =>
        rw [List.take_succ_cons, hc, tw_take isDig t i (fun j d hj e => by rw [← hd (j + 1) d (by omega)]; exact ha (j + 1) d (by omega) (by simpa using e)) (fun d e => by rw [← hd (i + 1) d (by omega)]; exact hs d (by simpa using e)) (by simpa using h)]
    · rw [if_neg hc]
      have h0 : ∀ j d, (c :: t)[j]? = some d → rowC j d = isDig d := fun j d e => by
        cases j with
        | zero =>
          obtain rfl : c = d := by simpa using e
          unfold rowC
          rw [show (c == 45) = false by simpa using hc]; simp
        | succ j => exact hd (j + 1) d (by omega)
      exact tw_take isDig (c :: t) i (fun j d hj e => by rw [← h0 j d e]; exact ha j d hj e) (fun d e => by rw [← h0 i d e]; exact hs d e) h

theorem rowM_pre (r : Bs) : ∃ i, i ≤ r.length ∧ rowM r = r.take i := by
  cases r with
  | nil => exact ⟨0, by simp, rfl⟩
  | cons c t =>
    have h : ∀ l : Bs, l.takeWhile isDig = l.take (l.takeWhile isDig).length := fun l => (List.prefix_iff_eq_take.1 (List.takeWhile_prefix _))
    unfold rowM
    simp only
    by_cases hc : c = 45
    · rw [if_pos hc]
      refine ⟨(t.takeWhile isDig).length + 1, ?_, ?_⟩
      · have := (List.takeWhile_prefix (l := t) isDig).length_le
        simp; omega
      · rw [List.take_succ_cons, hc, ← h t]
    · rw [if_neg hc]
      exact ⟨_, (List.takeWhile_prefix (l := c :: t) isDig).length_le, h _⟩

theorem numM_eq (r : Bs) : numM r = (if (okNum (trimPrefix (rowM r) [45]) && !(hasPrefix (rowM r) [45] && (numVal (trimPrefix (rowM r) [45]) == 0))) = true then .inl (if hasPrefix (rowM r) [45] = true then -(numVal (trimPrefix (rowM r) [45])) else numVal (trimPrefix (rowM r) [45]), r.drop (rowM r).length) else .inr (1, r)) := by
  unfold numM
  cases rowM r with
  | nil => rfl
  | cons c t =>
    by_cases hc : c = 45
    · have h1 : hasPrefix (c :: t) [45] = true := by rw [hc]; simp [hasPrefix, List.isPrefixOf]
      have h2 : trimPrefix (c :: t) [45] = t := by unfold trimPrefix; rw [h1]; rfl
      simp only [h1, h2, Bool.true_and]
      rw [if_pos (by rw [hc]; rfl), List.tail_cons]
      by_cases ho : okNum t = true <;> by_cases hz : numVal t = 0 <;> simp [ho, hz]
    · have h1 : hasPrefix (c :: t) [45] = false := by simp [hasPrefix, List.isPrefixOf]; exact fun e => hc e.symm
      have h2 : trimPrefix (c :: t) [45] = c :: t := by unfold trimPrefix; rw [h1]; rfl
      simp only [h1, h2]
      rw [if_neg (by simpa using hc)]
      by_cases ho : okNum (c :: t) = true <;> simp [ho]

end Go.Br
