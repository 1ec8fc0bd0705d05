/-
  The reader's state; what may turn beneath a call of it; values as they lie in memory.
  Contract of the reference's Digits.
  Contract of the law's own Plain: any bytes, made plain.
  Contracts of next, escape, unescape and of a quoted text's signs.
-/
import Derived.Test.YtnmmhihfnphjeaaDoorG04
import Derived.Test.YtnmmhihfnphjeaaDoorG06
import Derived.Test.YtnmmhihfnphjeaaDoorG08
import Derived.Laws.BytesArg
import Derived.Deep.RegionWith
import Derived.Deep.DeepCutAuto
import Derived.Deep.RegionHeld3
import Derived.Deep.DrawnRows
import Derived.OpenShut
import Derived.Deep.AppendLies
import Derived.Laws.AppendOwnNone
import Derived.Test.YtnmmhihfnphjeaaDoorG07

namespace Go.Proofs.YtnmmhihfnphjeaaDoor.B
set_option linter.unusedSimpArgs false
set_option linter.unusedVariables false
open Go.RowKit Go.Vr Go.Sort Go.Tx Go.Lib
open Go.Br hiding Bs
open Go.Proofs.YtnmmhihfnphjeaaDoor.W (IsCur Oth Kept)
attribute [local go_sem] setCellDrewN allocDrewN

/-- Blocks below B, but for b and c, are as they were. -/
structure Fr (B b c : Nat) (w w' : World) : Prop where
  os : w'.os = w.os
  tape : w'.tape = w.tape
  output : w'.output = w.output
  size : w.heap.size ≤ w'.heap.size
  block : ∀ k, k < B → k ≠ b → k ≠ c → w'.heap[k]? = w.heap[k]?
theorem Fr.refl (B b c : Nat) (w : World) : Fr B b c w w := ⟨rfl, rfl, rfl, Nat.le_refl _, fun _ _ _ _ => rfl⟩
theorem Fr.trans {B b c : Nat} {w w' w'' : World} (h : Fr B b c w w') (k : Fr B b c w' w'') : Fr B b c w w'' :=
  ⟨k.os.trans h.os, k.tape.trans h.tape, k.output.trans h.output, Nat.le_trans h.size k.size, fun i hi hb hc => (k.block i hi hb hc).trans (h.block i hi hb hc)⟩
theorem Fr.mono {B B' b c : Nat} {w w' : World} (h : Fr B b c w w') (hB : B' ≤ B) : Fr B' b c w w' := ⟨h.os, h.tape, h.output, h.size, fun k hk => h.block k (Nat.lt_of_lt_of_le hk hB)⟩
theorem Fr.ofBelow {B b c : Nat} {w w' : World} (h : Below B w w') : Fr B b c w w' := ⟨h.os, h.tape, h.output, h.size, fun k hk _ _ => h.block k hk⟩
theorem Fr.ofOth {B b c : Nat} {w w' : World} (h : Oth c w w') : Fr B b c w w' := ⟨h.os, h.tape, h.output, by rw [h.size]; exact Nat.le_refl _, fun k _ _ hc => h.block k hc⟩
theorem Fr.ofKept {B b c : Nat} {w w' : World} (h : Kept c w w') (hB : B ≤ w.heap.size) : Fr B b c w w' := ⟨h.os, h.tape, h.output, h.size, fun k hk _ hc => h.block k (by omega) hc⟩
theorem Fr.below {B b c : Nat} {w w' : World} (h : Fr B b c w w') (hb : B ≤ b) (hc : B ≤ c) : Below B w w' := ⟨h.os, h.tape, h.output, h.size, fun k hk => h.block k hk (by omega) (by omega)⟩
theorem Fr.setCell {B b c : Nat} {w w' : World} (h : Fr B b c w w') (N o : Nat) (v : Value) (hN : B ≤ N ∨ N = b ∨ N = c) : Fr B b c w (w'.setCell ⟨N, o, none⟩ v) :=
  ⟨h.os, h.tape, h.output, by simp [World.setCell]; exact h.size, fun k hk hb hc => (Below.heap_setCell _ _ _ _ (by show k ≠ N; rcases hN with h | h | h <;> omega)).trans (h.block k hk hb hc)⟩
theorem Fr.grown {B b c : Nat} {w w' w'' : World} {r : Option Nat} (h : Fr B b c w w') (hg : w'.grownBy w'' r) (hB : B ≤ w'.heap.size) (hr : ∀ k, r = some k → B ≤ k) : Fr B b c w w'' :=
  ⟨hg.os.trans h.os, hg.tape.trans h.tape, hg.output.trans h.output, Nat.le_trans h.size hg.size, fun k hk hb hc => (hg.block k (by omega) (fun e => by have := hr k e.symm; omega)).trans (h.block k hk hb hc)⟩

/-- The reader in block b: its cursor (block c) is behind p bytes of s; it is within dp others. -/
structure Rd (w : World) (b c : Nat) (s : ByteArray) (p dp : Nat) : Prop where
  cur : IsCur w c s p
  box : Box w b #[.pointer (some ⟨c, 0, none⟩), .string s, .int .i64 dp]
  ne : c ≠ b
theorem Rd.below {w w' : World} {b c p dp : Nat} {s : ByteArray} (h : Rd w b c s p dp) (hb : Below w.heap.size w w') : Rd w' b c s p dp := ⟨h.cur.below hb, h.box.later hb, h.ne⟩
theorem Rd.of_blocks {w w' : World} {b c p dp : Nat} {s : ByteArray} (h : Rd w b c s p dp) (e1 : w'.heap[b]? = w.heap[b]?) (e2 : w'.heap[c]? = w.heap[c]?) : Rd w' b c s p dp := ⟨h.cur.of_block e2, h.box.of_block e1, h.ne⟩
theorem Rd.drewN {w : World} {b c p dp : Nat} {s : ByteArray} (h : Rd w b c s p dp) (n : Nat) : Rd (w.drewN n) b c s p dp := ⟨h.cur.drewN n, h.box.drewN n, h.ne⟩
theorem Rd.oth {w w' : World} {b c p q dp : Nat} {s : ByteArray} (h : Rd w b c s p dp) (hc : IsCur w' c s q) (ho : Oth c w w') : Rd w' b c s q dp := ⟨hc, h.box.of_block (ho.block b (fun e => h.ne e.symm)), h.ne⟩
theorem Rd.kept {w w' : World} {b c p q dp : Nat} {s : ByteArray} (h : Rd w b c s p dp) (hc : IsCur w' c s q) (ho : Kept c w w') : Rd w' b c s q dp := ⟨hc, h.box.of_block (ho.block b h.box.lt (fun e => h.ne e.symm)), h.ne⟩
theorem Rd.set {w : World} {b c p dp dq : Nat} {s : ByteArray} (h : Rd w b c s p dp) : Rd (w.setCell ⟨b, 2, none⟩ (.int .i64 dq)) b c s p dq :=
  ⟨h.cur.of_block (Below.heap_setCell _ _ _ _ h.ne), h.box.set 2 _ (by simp), h.ne⟩
theorem Rd.under {w w' : World} {B b c p dp : Nat} {s : ByteArray} (h : Rd w b c s p dp) (hb : Below B w w') (h1 : b < B) (h2 : c < B) : Rd w' b c s p dp := h.of_blocks (hb.block b h1) (hb.block c h2)
theorem Rd.le {w : World} {b c p dp : Nat} {s : ByteArray} (h : Rd w b c s p dp) : p ≤ s.size := h.cur.le
theorem Rd.lt {w : World} {b c p dp : Nat} {s : ByteArray} (h : Rd w b c s p dp) : b < w.heap.size ∧ c < w.heap.size := ⟨h.box.lt, h.cur.lt⟩

/-- What is left of the text. -/
abbrev rst (s : ByteArray) (p : Nat) : Bs := s.data.toList.drop p
theorem rst_len (s : ByteArray) (p : Nat) : (rst s p).length = s.size - p := by rw [List.length_drop, len_eq]

/-- A value's five cells. -/
structure SV where
  k : Int
  n : Int
  s : ByteArray
  ka : Option Addr
  kn : Nat
  kc : Nat
  la : Option Addr
  ln : Nat
  lc : Nat
abbrev SV.cells (v : SV) : Array Value := #[.int .i64 v.k, .int .i64 v.n, .string v.s, .slice v.ka v.kn v.kc, .slice v.la v.ln v.lc]
abbrev SV.val (v : SV) : Value := .agg v.cells
def SV.zero : SV := ⟨0, 0, ⟨#[]⟩, none, 0, 0, none, 0, 0⟩
def EV : El SV where
  enc := fun v => [.int .i64 v.k, .int .i64 v.n, .string v.s, .slice v.ka v.kn v.kc, .slice v.la v.ln v.lc]
  k := 5
  T := 39
  TS := 37
  z := .agg #[.int .i64 0, .int .i64 0, .string ⟨#[]⟩, .slice none 0 0, .slice none 0 0]
  bytes := 80
  hk := fun _ => rfl
  one := by
    intro x u hu
    simp only [List.mem_cons, List.not_mem_nil, or_false] at hu
    rcases hu with rfl | rfl | rfl | rfl | rfl <;> rfl
  ht := Tryd.underlying37
  hi := ⟨Tryd.t39, by kernel_rfl, by kernel_rfl, by kernel_rfl, by kernel_rfl⟩
  hzs := by kernel_rfl
  hk0 := by decide
  hby := by decide
def ET : El Bs where
  enc := fun v => [.string (str v)]
  k := 1
  T := 9
  TS := 36
  z := .string ⟨#[]⟩
  bytes := 16
  hk := fun _ => rfl
  one := by
    intro x u hu
    simp only [List.mem_cons, List.not_mem_nil, or_false] at hu
    rcases hu with rfl; rfl
  ht := Tryd.underlying36
  hi := ⟨Tryd.t9, by kernel_rfl, by kernel_rfl, by kernel_rfl, by kernel_rfl⟩
  hzs := by kernel_rfl
  hk0 := by decide
  hby := by decide

/-- Two rows, member by member. -/
def All2 {α β : Type} (P : α → β → Prop) : List α → List β → Prop
  | [], [] => True
  | x :: l, y :: k => P x y ∧ All2 P l k
  | _, _ => False
theorem All2.len {α β : Type} {P : α → β → Prop} : ∀ {l : List α} {k : List β}, All2 P l k → l.length = k.length
  | [], [], _ => rfl
  | _ :: _, _ :: _, h => by simp [All2.len h.2]
theorem All2.mono {α β : Type} {P Q : α → β → Prop} (hPQ : ∀ x y, P x y → Q x y) : ∀ {l : List α} {k : List β}, All2 P l k → All2 Q l k
  | [], [], _ => trivial
  | _ :: _, _ :: _, h => ⟨hPQ _ _ h.1, All2.mono hPQ h.2⟩
theorem All2.snoc {α β : Type} {P : α → β → Prop} {x : α} {y : β} (hx : P x y) : ∀ {l : List α} {k : List β}, All2 P l k → All2 P (l ++ [x]) (k ++ [y])
  | [], [], _ => ⟨hx, trivial⟩
  | _ :: _, _ :: _, h => ⟨h.1, All2.snoc hx h.2⟩
theorem All2.at_ {α β : Type} {P : α → β → Prop} : ∀ {l : List α} {k : List β}, All2 P l k → ∀ (i : Nat) (x : α), l[i]? = some x → ∃ y, k[i]? = some y ∧ P x y
  | x :: _, y :: _, h, 0, z, e => by
    obtain rfl : x = z := by simpa using e
    exact ⟨y, rfl, h.1⟩
  | _ :: _, _ :: _, h, i + 1, z, e => by
    obtain ⟨y, e2, hy⟩ := All2.at_ h.2 i z (by simpa using e)
    exact ⟨y, by simpa using e2, hy⟩

/-- A leaf's cells. -/
def leafSV : Leaf → SV
  | .inl s => ⟨1, 0, str s, none, 0, 0, none, 0, 0⟩
  | .inr (.inl n) => ⟨2, n, ⟨#[]⟩, none, 0, 0, none, 0, 0⟩
  | .inr (.inr true) => ⟨3, 1, ⟨#[]⟩, none, 0, 0, none, 0, 0⟩
  | .inr (.inr false) => ⟨3, 0, ⟨#[]⟩, none, 0, 0, none, 0, 0⟩

/-- A row of elements that is there, in a block of the set Q. -/
structure QRow {α : Type} (E : El α) (w : World) (Q : Nat → Prop) (a : Option Addr) (n c : Nat) (l : List α) : Prop where
  row : ERow E w a n l
  le : n ≤ c
  mx : c ≤ maxLen
  blk : ∀ x, a = some x → 0 < n → Q x.block
theorem QRow.keep {α : Type} {E : El α} {w w' : World} {Q Q' : Nat → Prop} {a : Option Addr} {n c : Nat} {l : List α} (h : QRow E w Q a n c l)
    (hk : ∀ k, Q k → k < w.heap.size → w'.heap[k]? = w.heap[k]?) (hQ : ∀ k, Q k → k < w.heap.size → Q' k) : QRow E w' Q' a n c l := by
  refine ⟨⟨h.row.n, h.row.nil, fun x e j v hj => ?_⟩, h.le, h.mx, fun x e h0 => ?_⟩
  · have h0 : 0 < n := by
      have := (List.getElem?_eq_some_iff.1 hj).1
      rw [E.encs_len, h.row.n] at this
      exact Nat.pos_of_ne_zero fun e => by rw [e, Nat.zero_mul] at this; omega
    have hc := h.row.cell x e j v hj
    have hl : (x.add j).block < w.heap.size := World.block_lt_of_cell? _ _ hc
    have hxb : (x.add j).block = x.block := by unfold Addr.add; split <;> rfl
    rw [World.cell?_of_block (hk _ (by rw [hxb]; exact h.blk x e h0) hl)]
    exact hc
  · obtain ⟨b, off, e2⟩ := h.row.spot h0
    have hx : x = ⟨b, off, none⟩ := by rw [e] at e2; exact Option.some.inj e2
    refine hQ _ (h.blk x e h0) ?_
    subst hx
    subst e
    exact h.row.lt h0

/-- A value as it lies in memory, its rows in blocks of the set Q. -/
def VH (w : World) (Q : Nat → Prop) : (d : Nat) → Val d → SV → Prop
  | 0, x, v => v = leafSV x
  | _ + 1, Sum.inl x, v => v = leafSV x
  | d + 1, Sum.inr (Sum.inl l), v => (v.k = 4 ∧ v.n = 0 ∧ v.s = ⟨#[]⟩ ∧ v.ka = none ∧ v.kn = 0 ∧ v.kc = 0) ∧ ∃ us, QRow EV w Q v.la v.ln v.lc us ∧ All2 (VH w Q d) l us
  | d + 1, Sum.inr (Sum.inr l), v => (v.k = 5 ∧ v.n = 0 ∧ v.s = ⟨#[]⟩) ∧ QRow ET w Q v.ka v.kn v.kc (l.map Prod.fst) ∧ ∃ us, QRow EV w Q v.la v.ln v.lc us ∧ All2 (VH w Q d) (l.map Prod.snd) us

theorem VH.keep {w w' : World} {Q Q' : Nat → Prop} (hk : ∀ k, Q k → k < w.heap.size → w'.heap[k]? = w.heap[k]?) (hQ : ∀ k, Q k → k < w.heap.size → Q' k) : ∀ {d : Nat} {x : Val d} {v : SV}, VH w Q d x v → VH w' Q' d x v
  | 0, _, _, h => h
  | _ + 1, Sum.inl _, _, h => h
  | d + 1, Sum.inr (Sum.inl l), v, ⟨h1, us, h2, h3⟩ => ⟨h1, us, h2.keep hk hQ, h3.mono fun _ _ h => VH.keep hk hQ h⟩
  | d + 1, Sum.inr (Sum.inr l), v, ⟨h1, h0, us, h2, h3⟩ => ⟨h1, h0.keep hk hQ, us, h2.keep hk hQ, h3.mono fun _ _ h => VH.keep hk hQ h⟩
theorem VH.below {w w' : World} {Q : Nat → Prop} {d : Nat} {x : Val d} {v : SV} (h : VH w Q d x v) (hb : Below w.heap.size w w') : VH w' Q d x v := h.keep (fun k _ hk => hb.block k hk) (fun _ h _ => h)
theorem VH.leaf {w : World} {Q : Nat → Prop} {d : Nat} (x : Leaf) : VH w Q (d + 1) (Sum.inl x) (leafSV x) := rfl

end Go.Proofs.YtnmmhihfnphjeaaDoor.B

namespace Go.Proofs.YtnmmhihfnphjeaaDoor.W
set_option linter.unusedVariables false
open Go.RowKit

/-- string(b) of a row of bytes just made. -/
theorem conv_new (w : World) (xs : List Int) (cap : Nat) (o : Obj) (hc : ∀ i, i < xs.length → (w.alloc o).cell? ⟨w.heap.size, i, none⟩ = some (.int .u8 (xs.getD i 0))) :
    (convert 47 9 (.slice (some ⟨w.heap.size, 0, none⟩) xs.length cap)).run Tryd.prog (w.alloc o) = .ok (.string (strOfNums xs)) (w.alloc o) :=
  run_convert_bytes_arg (w.alloc o) 47 5 Tryd.underlying47 Tryd.underlying5 w.heap.size 0 xs.length cap xs rfl (fun i hi => by rw [Nat.zero_add]; exact hc i hi) 9 Tryd.underlying9

theorem conv_one (w : World) (n : Int) :
    (convert 47 9 (.slice (some ⟨w.heap.size, 0, none⟩) 1 1)).run Tryd.prog (w.alloc (.cells #[.int .u8 n] 5)) = .ok (.string ⟨#[UInt8.ofNat n.toNat]⟩) (w.alloc (.cells #[.int .u8 n] 5)) :=
  conv_new w [n] 1 _ (fun i hi => by
    have : i = 0 := by simpa using hi
    subst this
    simp [go_sem])

set_option maxHeartbeats 400000 in
set_option maxRecDepth 100000 in
theorem digits_one (n : Nat) (w : World) (h : n < 10) :
    Calls Tryd.prog 9 #[.int .i64 n] w fun e w' => e = .returned (.string ⟨#[Tx.dg n]⟩) ∧ Below w.heap.size w w' := by
  have hcv := conv_one w (48 + n)
  have e0 : UInt8.ofNat (48 + (n : Int)).toNat = Tx.dg n := by rw [Tx.dg]; congr 1
  rw [e0] at hcv
  clear e0
  go_enter Tryd.func9, Tryd.ntmps9
  go_wp2_with fail
  go_ret
  exact ⟨rfl, (Below.refl _ _).alloc (Nat.le_refl _) _⟩

set_option maxHeartbeats 400000 in
set_option maxRecDepth 100000 in
theorem digits_any : ∀ (f n : Nat) (w : World), n < 10 ^ (f + 1) → f ≤ 8 →
    Calls Tryd.prog 9 #[.int .i64 n] w fun e w' => e = .returned (.string (Tx.str (Tx.digF (f + 1) n))) ∧ Below w.heap.size w w'
  | 0, n, w, h, _ => by
    have h10 : n < 10 := by simpa using h
    have := digits_one n w h10
    simpa [Tx.digF, h10, Tx.str] using this
  | f + 1, n, w, h, hf => by
    by_cases h10 : n < 10
    · have := digits_one n w h10
      simpa [Tx.digF, h10, Tx.str] using this
    · have hq : n / 10 < 10 ^ (f + 1) := by rw [Nat.pow_succ] at h; omega
      have hb : n < 10000000000 := by
        have h2 : (10 : Nat) ^ (f + 1 + 1) ≤ 10 ^ 10 := Nat.pow_le_pow_right (by omega) (by omega)
        have e : (10 : Nat) ^ 10 = 10000000000 := by decide
        exact Nat.lt_of_lt_of_le h (e ▸ h2)
      have e1 : ((n / 10 : Nat) : Int) = (n : Int) / 10 := by omega
      have e2 : ((n % 10 : Nat) : Int) = (n : Int) % 10 := by omega
      have IH : ∀ w, Calls Tryd.prog 9 #[.int .i64 ((n : Int) / 10)] w fun e w' => e = .returned (.string (Tx.str (Tx.digF (f + 1) (n / 10)))) ∧ Below w.heap.size w w' := fun w => e1 ▸ digits_any f (n / 10) w hq (by omega)
      have IG : ∀ w, Calls Tryd.prog 9 #[.int .i64 ((n : Int) % 10)] w fun e w' => e = .returned (.string ⟨#[Tx.dg (n % 10)]⟩) ∧ Below w.heap.size w w' := fun w => e2 ▸ digits_one (n % 10) w (by omega)
      have HIH : Hid _ := IH
      have HIG : Hid _ := IG
      have HE : Hid (Tx.digF (f + 2) n = Tx.digF (f + 1) (n / 10) ++ [Tx.dg (n % 10)]) := by show Tx.digF (f + 2) n = _; rw [Tx.digF, if_neg h10]
      have hl : (Tx.str (Tx.digF (f + 1) (n / 10))).size ≤ 9 := by rw [Tx.str_size]; exact Nat.le_trans (Tx.digF_len _ _) (by omega)
      clear h hq e1 e2 IH IG
      go_enter Tryd.func9, Tryd.ntmps9
      go_wp2_with fail
      refine (HIH.out _).mono ?_
      rintro e w1 ⟨rfl, hb1⟩
      go_wp2_with fail
      refine (HIG.out _).mono ?_
      rintro e w2 ⟨rfl, hb2⟩
      go_wp2_with fail
      go_ret
      exact ⟨ret_str (by rw [HE.out]; exact Tx.str_app _ [_]), hb1.trans (hb2.mono hb1.size)⟩

end Go.Proofs.YtnmmhihfnphjeaaDoor.W

namespace Go.Proofs.YtnmmhihfnphjeaaDoor.W
set_option linter.unusedVariables false
open Go.RowKit
attribute [local go_sem ↓] Go.wp_at_zero Go.wp_at_succ

/-- A slice of integers that is there: its elements 'xs'. -/
structure Row (k : IntKind) (w : World) (a : Option Addr) (len cap : Nat) (xs : List Int) : Prop where
  n : xs.length = len
  nil : a = none → len = 0 ∧ cap = 0
  le : len ≤ cap
  mx : cap ≤ maxLen
  cell : ∀ x, a = some x → ∀ i, i < len → w.cell? (x.add i) = some (.int k (xs.getD i 0))
  wf : ∀ z ∈ xs, (Lit.int k z).wf = true

theorem info8 : Tryd.prog.info? 5 = some Tryd.t5 := by kernel_rfl

/-- The cells of a row of numbers. -/
def cells8 (xs : List Int) : List Value := xs.map (Value.int .u8)
theorem cells8_one (xs : List Int) : ∀ u ∈ cells8 xs, u.oneCell' = true := by
  intro u hu
  simp [cells8] at hu
  obtain ⟨z, _, rfl⟩ := hu
  rfl
theorem cells8_len (xs : List Int) : (cells8 xs).length = xs.length := by simp [cells8]

/-- The row behind k rounds: the first k made plain. -/
def upTo (ys : List Int) (k : Nat) : List Int := (ys.take k).map (fun z => ((Tx.sg1 z).toNat : Int)) ++ ys.drop k
theorem upTo_len (ys : List Int) (k : Nat) : (upTo ys k).length = ys.length := by simp [upTo]; omega
theorem upTo_at (ys : List Int) (k : Nat) (h : k < ys.length) : (cells8 (upTo ys k))[k]? = some (.int .u8 (ys.getD k 0)) := by
  simp [cells8, upTo, List.getElem?_append, Nat.min_eq_left (Nat.le_of_lt h), List.getElem?_eq_getElem h]
theorem upTo_set (ys : List Int) (k : Nat) (h : k < ys.length) : (cells8 (upTo ys k)).set k (.int .u8 ((Tx.sg1 (ys.getD k 0)).toNat : Int)) = cells8 (upTo ys (k + 1)) := by
  apply List.ext_getElem?
  intro j
  rw [List.getElem?_set]
  rcases Nat.lt_trichotomy j k with hj | hj | hj
  · rw [if_neg (by omega)]
    simp [cells8, upTo, List.getElem?_append, Nat.min_eq_left (Nat.le_of_lt h), Nat.min_eq_left (show k + 1 ≤ ys.length by omega), hj, Nat.lt_succ_of_lt hj]
  · subst hj
    rw [if_pos rfl]
    simp [cells8, upTo, List.getElem?_append, Nat.min_eq_left (Nat.le_of_lt h), Nat.min_eq_left (show j + 1 ≤ ys.length by omega), List.getElem?_eq_getElem h]
    omega
  · rw [if_neg (by omega)]
    simp [cells8, upTo, List.getElem?_append, Nat.min_eq_left (Nat.le_of_lt h), Nat.min_eq_left (show k + 1 ≤ ys.length by omega), show ¬ j < k by omega, show ¬ j < k + 1 by omega]
    congr 2; omega

theorem upTo_str (ys : List Int) (m : Nat) (h : ys.length = m) : strOfNums (upTo ys m) = Tx.str (Tx.sg ys) := by
  subst h
  refine Tx.ba_ext ?_
  rw [strOfNums_data, Tx.str_list, upTo, List.drop_length, List.append_nil, List.take_length, List.map_map, Tx.sg]
  apply List.map_congr_left
  intro z _
  simp

theorem row_form {w : World} {base e m : Nat} {v : Value} {xs : List Value} (h : w.ownsRow base e 1 v m xs) (hv : ¬ v = .slice none 0 0) : ∃ g cv, v = .slice (some ⟨g, 0, none⟩) m cv ∧ base ≤ g := by
  rcases h.2 with ⟨h1, _⟩ | ⟨g, cv, cur, h1, h2, _⟩
  · exact absurd h1 hv
  · exact ⟨g, cv, h1, h2⟩

theorem sg1_at (z : Int) (h0 : 0 ≤ z % 38) (h : z % 38 < 38) : ∀ hh : (z % 38).toNat < 38, (ByteArray.mk #[10, 9, 32, 34, 92, 35, 47, 97, 98, 99, 110, 116, 58, 61, 45, 91, 93, 123, 125, 44, 46, 48, 49, 50, 51, 118, 120, 126, 94, 42, 124, 60, 62, 33, 95, 122, 121, 113])[(z % 38).toNat]'hh = Tx.sg1 z := by
  intro hh
  unfold Tx.sg1 Tx.sgs
  rw [List.getD_eq_getElem?_getD, List.getElem?_eq_getElem (by exact hh)]
  rfl

end Go.Proofs.YtnmmhihfnphjeaaDoor.W

namespace Go.Proofs.YtnmmhihfnphjeaaDoor.W
set_option linter.unusedVariables false
open Go.RowKit Go.Joins Go.Tx
attribute [local go_sem ↓] Go.wp_at_zero Go.wp_at_succ

theorem drop_cons (s : ByteArray) (p : Nat) (h : p < s.size) : s.data.toList.drop p = s[p] :: s.data.toList.drop (p + 1) := by
  rw [List.drop_eq_getElem_cons (by rw [len_eq]; omega)]; rfl

set_option maxHeartbeats 400000 in
theorem next_in (b : Nat) (s : ByteArray) (p : Nat) (w : World) (h : IsCur w b s p) (hs : s.size ≤ 2000000000000) (hp : p < s.size) :
    Calls Tryd.prog 101 #[.pointer (some ⟨b, 0, none⟩)] w fun x w' => x = .returned (.tuple #[.int .u8 (s[p].toNat : Int), .bool true]) ∧ IsCur w' b s (p + 1) ∧ Oth b w w' := by
  have HP : Hid (Lib.hasPrefix (s.data.toList.drop p) ((s.extract p s.size).extract 0 1).data.toList = true) := by
    show Lib.hasPrefix _ _ = true
    rw [ext_list, rest_list]
    exact List.isPrefixOf_iff_prefix.2 (List.take_prefix _ _)
  have hz : ((s.extract p s.size).extract 0 1).size = 1 := by rw [← len_eq, ext_list, rest_list, List.length_take, List.length_drop, len_eq]; omega
  have hz2 : (1 : Int) ≤ ((s.extract p s.size).size : Int) := by
    have : (s.extract p s.size).size = s.size - p := by rw [← len_eq, rest_list, List.length_drop, len_eq]
    omega
  go_enter Tryd.func101, Tryd.ntmps101
  go_wp2_with fail
  refine (peek_in b s p w h hs hp).mono ?_
  rintro x w1 ⟨rfl, n, rfl⟩
  have h1 := h.drewN n
  generalize hr : (s.extract p s.size).extract 0 1 = r1 at *
  go_wp2_with fail
  go_region_with (first | (go_at_call 56; refine (rest_any b s p _ (by exact h1.of_block rfl) hs).mono ?_; rintro x w2 ⟨rfl, m, rfl⟩) | (go_at_call 27; refine (pass_cur b s r1 p _ (by exact h1.of_block rfl) hs HP.out).mono ?_; rintro x w2 ⟨rfl, hc2, ho2⟩))
  all_goals
    go_wp2_with fail
    go_ret2
    exact ⟨rfl, by rw [← hz]; exact hc2, (Oth.drewN b w _).trans ho2⟩

set_option maxHeartbeats 400000 in
theorem next_end (b : Nat) (s : ByteArray) (p : Nat) (w : World) (h : IsCur w b s p) (hs : s.size ≤ 2000000000000) (hp : ¬ p < s.size) :
    Calls Tryd.prog 101 #[.pointer (some ⟨b, 0, none⟩)] w fun x w' => x = .returned (.tuple #[.int .u8 0, .bool false]) ∧ ∃ n, w' = w.drewN n := by
  go_enter Tryd.func101, Tryd.ntmps101
  go_wp2_with fail
  refine (peek_end b s p w h hs hp).mono ?_
  rintro x w1 ⟨rfl, n, rfl⟩
  go_wp2_with fail
  go_ret2
  exact ⟨rfl, n, rfl⟩

theorem u8_of {c : UInt8} {n : Nat} (hn : n < 256) (h : (c.toNat : Int) = n) : c = UInt8.ofNat n := by
  apply UInt8.toNat_inj.1; rw [UInt8.toNat_ofNat']; omega

/-- What unescape answers. -/
def unescV (c : UInt8) : Value := match unesc c with | some d => .tuple #[.int .u8 (d.toNat : Int), .bool true] | none => .tuple #[.int .u8 0, .bool false]

set_option maxHeartbeats 800000 in
theorem unescape_any (c : UInt8) (w : World) :
    Calls Tryd.prog 102 #[.int .u8 (c.toNat : Int)] w fun x w' => x = .returned (unescV c) ∧ w' = w := by
  by_cases h1 : (c.toNat : Int) = 34
  · obtain rfl : c = 34 := u8_of (n := 34) (by decide) h1
    go_enter Tryd.func102, Tryd.ntmps102
    go_wp2_with fail
    go_ret2
    exact ⟨rfl, rfl⟩
  by_cases h2 : (c.toNat : Int) = 92
  · obtain rfl : c = 92 := u8_of (n := 92) (by decide) h2
    go_enter Tryd.func102, Tryd.ntmps102
    go_wp2_with fail
    go_ret2
    exact ⟨rfl, rfl⟩
  by_cases h3 : (c.toNat : Int) = 47
  · obtain rfl : c = 47 := u8_of (n := 47) (by decide) h3
    go_enter Tryd.func102, Tryd.ntmps102
    go_wp2_with fail
    go_ret2
    exact ⟨rfl, rfl⟩
  by_cases h4 : (c.toNat : Int) = 110
  · obtain rfl : c = 110 := u8_of (n := 110) (by decide) h4
    go_enter Tryd.func102, Tryd.ntmps102
    go_wp2_with fail
    go_ret2
    exact ⟨rfl, rfl⟩
  by_cases h5 : (c.toNat : Int) = 116
  · obtain rfl : c = 116 := u8_of (n := 116) (by decide) h5
    go_enter Tryd.func102, Tryd.ntmps102
    go_wp2_with fail
    go_ret2
    exact ⟨rfl, rfl⟩
  have HV : Hid (unescV c = .tuple #[.int .u8 0, .bool false]) := by
    have e1 : c ≠ 34 := fun e => h1 (by rw [e]; rfl)
    have e2 : c ≠ 92 := fun e => h2 (by rw [e]; rfl)
    have e3 : c ≠ 47 := fun e => h3 (by rw [e]; rfl)
    have e4 : c ≠ 110 := fun e => h4 (by rw [e]; rfl)
    have e5 : c ≠ 116 := fun e => h5 (by rw [e]; rfl)
    show unescV c = _
    simp [unescV, unesc, e1, e2, e3, e4, e5]
  have d1 : ((c.toNat : Int) == 34) = false := by simpa using h1
  have d2 : ((c.toNat : Int) == 92) = false := by simpa using h2
  have d3 : ((c.toNat : Int) == 47) = false := by simpa using h3
  have d4 : ((c.toNat : Int) == 110) = false := by simpa using h4
  have d5 : ((c.toNat : Int) == 116) = false := by simpa using h5
  clear h1 h2 h3 h4 h5
  go_enter Tryd.func102, Tryd.ntmps102
  go_wp2_with fail
  go_ret2
  exact ⟨by rw [HV.out]; rfl, rfl⟩

/-- What escape answers. -/
def escV (c : UInt8) : Value := match esc c with | some d => .tuple #[.int .u8 (d.toNat : Int), .bool true] | none => .tuple #[.int .u8 0, .bool false]

set_option maxHeartbeats 800000 in
theorem escape_any (c : UInt8) (w : World) :
    Calls Tryd.prog 47 #[.int .u8 (c.toNat : Int)] w fun x w' => x = .returned (escV c) ∧ w' = w := by
  by_cases h1 : (c.toNat : Int) = 34
  · obtain rfl : c = 34 := u8_of (n := 34) (by decide) h1
    go_enter Tryd.func47, Tryd.ntmps47
    go_wp2_with fail
    go_ret2
    exact ⟨rfl, rfl⟩
  by_cases h2 : (c.toNat : Int) = 92
  · obtain rfl : c = 92 := u8_of (n := 92) (by decide) h2
    go_enter Tryd.func47, Tryd.ntmps47
    go_wp2_with fail
    go_ret2
    exact ⟨rfl, rfl⟩
  by_cases h3 : (c.toNat : Int) = 10
  · obtain rfl : c = 10 := u8_of (n := 10) (by decide) h3
    go_enter Tryd.func47, Tryd.ntmps47
    go_wp2_with fail
    go_ret2
    exact ⟨rfl, rfl⟩
  by_cases h4 : (c.toNat : Int) = 9
  · obtain rfl : c = 9 := u8_of (n := 9) (by decide) h4
    go_enter Tryd.func47, Tryd.ntmps47
    go_wp2_with fail
    go_ret2
    exact ⟨rfl, rfl⟩
  have HV : Hid (escV c = .tuple #[.int .u8 0, .bool false]) := by
    have e1 : c ≠ 34 := fun e => h1 (by rw [e]; rfl)
    have e2 : c ≠ 92 := fun e => h2 (by rw [e]; rfl)
    have e3 : c ≠ 10 := fun e => h3 (by rw [e]; rfl)
    have e4 : c ≠ 9 := fun e => h4 (by rw [e]; rfl)
    show escV c = _
    simp [escV, esc, e1, e2, e3, e4]
  have d1 : ((c.toNat : Int) == 34) = false := by simpa using h1
  have d2 : ((c.toNat : Int) == 92) = false := by simpa using h2
  have d3 : ((c.toNat : Int) == 10) = false := by simpa using h3
  have d4 : ((c.toNat : Int) == 9) = false := by simpa using h4
  clear h1 h2 h3 h4
  go_enter Tryd.func47, Tryd.ntmps47
  go_wp2_with fail
  go_ret2
  exact ⟨by rw [HV.out]; rfl, rfl⟩

end Go.Proofs.YtnmmhihfnphjeaaDoor.W
