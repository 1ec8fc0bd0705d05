/-
  The items of a list, of a map: what the reader's closures do.
  What the reader's closures do: an item of a list.
-/
import Derived.Test.YtnmmhihfnphjeaaGreatDoorG17
import Derived.Deep.RegionWith
import Derived.Deep.RegionLaw

namespace Go.Proofs.YtnmmhihfnphjeaaGreatDoor.B
set_option linter.unusedSimpArgs false
set_option linter.unusedVariables false
open Go.RowKit Go.Vr Go.Sort Go.Tx Go.Lib
open Go.Br hiding Bs
open Go.Proofs.YtnmmhihfnphjeaaGreatDoor.W (IsCur Oth Kept)
open Go.Joins (block_setCell unfrozen_of_block cell_of_block)
attribute [local go_sem] setCellDrewN allocDrewN

/-- How a value's reading ends. -/
def VPost (b c : Nat) (s : ByteArray) (p dp d : Nat) (w : World) (r : R (Val d)) (e : Ending) (w' : World) : Prop := Fr w.heap.size b c w w' ∧ match r with
  | .inl (x, q) => Good b c s p dp w' q ∧ ∃ v : SV, e = .returned (.tuple #[v.val, .int .i64 0]) ∧ VH w' (fun k => w.heap.size ≤ k) d x v
  | .inr (n, q) => 1 ≤ n ∧ Bad b c s w' q ∧ ∃ v : SV, e = .returned (.tuple #[v.val, .int .i64 n])
def ValueAt (d : Nat) : Prop := ∀ (b c : Nat) (s : ByteArray) (p dp : Nat) (w : World), Rd w b c s p dp → s.size ≤ 80000 → dp + d = 8 →
  Calls Tryz.prog 43 #[.pointer (some ⟨b, 0, none⟩)] w (VPost b c s p dp d w (valM d (rst s p)))

theorem EOwn.fr {α : Type} {E : El α} {w w' : World} {B B2 b c : Nat} {v : Value} {l : List α} (h : EOwn E w B v l) (hf : Fr B2 b c w w') (hB : w.heap.size ≤ B2) (hb : b < B) (hc : c < B) : EOwn E w' B v l := by
  refine ⟨h.1, ?_⟩
  rcases h.2 with h' | ⟨g, cap, cur, e, h1, h2, h3⟩
  · exact .inl h'
  · exact .inr ⟨g, cap, cur, e, h1, by rw [hf.block g (Nat.lt_of_lt_of_le (Array.getElem?_eq_some_iff.1 h2).1 hB) (by omega) (by omega)]; exact h2, h3⟩

/-- A list in the making: its variable in block N, the items so far. -/
structure LSt (b c : Nat) (w : World) (N1 N2 d : Nat) (acc : List (Val d)) : Prop where
  b1 : Box w N1 #[.pointer (some ⟨b, 0, none⟩)]
  lo : b < N1 ∧ c < N1 ∧ N1 < N2
  ex : ∃ L us, Box w N2 #[.int .i64 4, .int .i64 0, .string ⟨#[]⟩, .slice none 0 0, L] ∧ EOwn EV w (N2 + 1) L us ∧ All2 (VH w (fun k => N2 < k ∧ some k ≠ L.ownBlock) d) acc us

/-- How an item's reading ends. -/
def CPost (b c : Nat) (s : ByteArray) (p dp N1 : Nat) (w : World) {α : Type} (r : R α) (St : World → α → Prop) (St2 : World → Prop) (e : Ending) (w' : World) : Prop := Fr N1 b c w w' ∧ match r with
  | .inl (x, q) => Good b c s p dp w' q ∧ e = .returned (.int .i64 0) ∧ St w' x
  | .inr (n, q) => 1 ≤ n ∧ Bad b c s w' q ∧ e = .returned (.int .i64 n) ∧ St2 w'

theorem ownBlock_slice (g off n cap : Nat) : (Value.slice (some ⟨g, off, none⟩) n cap).ownBlock = some g := rfl

/-- A value's cells written at a place. -/
abbrev put5 (w : World) (g o : Nat) (v : SV) : World := ((((w.setCell ⟨g, o, none⟩ (.int .i64 v.k)).setCell ⟨g, o + 1, none⟩ (.int .i64 v.n)).setCell ⟨g, o + 2, none⟩ (.string v.s)).setCell ⟨g, o + 3, none⟩ (.slice v.ka v.kn v.kc)).setCell ⟨g, o + 4, none⟩ (.slice v.la v.ln v.lc)
theorem set5_take (L A : List Value) (n : Nat) (z0 z1 z2 z3 z4 x0 x1 x2 x3 x4 : Value) (hA : A.length = n) (h : L.take (n + 5) = A ++ [z0, z1, z2, z3, z4]) :
    (((((L.set n x0).set (n + 1) x1).set (n + 2) x2).set (n + 3) x3).set (n + 4) x4).take (n + 5) = A ++ [x0, x1, x2, x3, x4] := by
  have hL : L = A ++ (z0 :: z1 :: z2 :: z3 :: z4 :: L.drop (n + 5)) := by
    have := (List.take_append_drop (n + 5) L).symm
    rw [h] at this
    exact this.trans (by simp)
  generalize L.drop (n + 5) = R at hL
  subst hL
  subst hA
  simp [List.set_append, List.take_append]
  exact List.take_of_length_le (by omega)
theorem put5_block {w : World} {g o : Nat} {v : SV} {cur : Array Value} {T : TypeId} (h : w.heap[g]? = some (.cells cur T (0, 0))) :
    (put5 w g o v).heap[g]? = some (.cells (((((cur.setIfInBounds o (.int .i64 v.k)).setIfInBounds (o + 1) (.int .i64 v.n)).setIfInBounds (o + 2) (.string v.s)).setIfInBounds (o + 3) (.slice v.ka v.kn v.kc)).setIfInBounds (o + 4) (.slice v.la v.ln v.lc)) T (0, 0)) :=
  block_setCell (block_setCell (block_setCell (block_setCell (block_setCell h _) _) _) _) _
theorem put5_grown (w : World) (g o : Nat) (v : SV) : w.grownBy (put5 w g o v) (some g) :=
  grownBy_trans (grownBy_trans (grownBy_trans (grownBy_trans (grownBy_setCell _ _ _ _) (grownBy_setCell _ _ _ _) (.inl rfl)) (grownBy_setCell _ _ _ _) (.inl rfl)) (grownBy_setCell _ _ _ _) (.inl rfl)) (grownBy_setCell _ _ _ _) (.inl rfl)
theorem own_put {w : World} {B g n cap : Nat} {l : List SV} {z : SV} (h : EOwn EV w B (.slice (some ⟨g, 0, none⟩) n cap) (l ++ [z])) (v : SV) : EOwn EV (put5 w g (l.length * 5) v) B (.slice (some ⟨g, 0, none⟩) n cap) (l ++ [v]) := by
  obtain ⟨h1, h2⟩ := h
  refine ⟨by rw [EV.encs_len], ?_⟩
  rcases h2 with ⟨e, _⟩ | ⟨g', cap', cur, e, hB, hg, hnc, hcm, hcs, htk⟩
  · cases e
  · injection e with e1 e2 e3
    injection e1 with e1
    injection e1 with e1 _ _
    subst e1
    subst e3
    have hl2 : (l ++ [v]).length = (l ++ [z]).length := by simp
    refine .inr ⟨g, cap, _, by rw [e2, hl2], hB, put5_block hg, by rw [hl2]; exact hnc, hcm, by simpa using hcs, ?_⟩
    have hk : EV.k = 5 := rfl
    have h5 : (l ++ [v]).length * EV.k = l.length * 5 + 5 := by rw [hk]; simp; omega
    have h6 : (l ++ [z]).length * EV.k = l.length * 5 + 5 := by rw [hk]; simp; omega
    rw [h6, EV.encs_app] at htk
    rw [h5, EV.encs_app]
    have e4 : EV.encs [z] = [.int .i64 z.k, .int .i64 z.n, .string z.s, .slice z.ka z.kn z.kc, .slice z.la z.ln z.lc] := by simp [El.encs, EV]
    have e5 : EV.encs [v] = [.int .i64 v.k, .int .i64 v.n, .string v.s, .slice v.ka v.kn v.kc, .slice v.la v.ln v.lc] := by simp [El.encs, EV]
    rw [e4] at htk
    rw [e5]
    simp only [Array.toList_setIfInBounds]
    exact set5_take _ _ _ _ _ _ _ _ _ _ _ _ _ (by rw [EV.encs_len, hk]) htk
/-- A row whose last is z, for a walk. -/
theorem own_last {w : World} {B : Nat} {v : Value} {l : List SV} {z : SV} (h : EOwn EV w B v (l ++ [z])) : ∃ g cap, v = .slice (some ⟨g, 0, none⟩) (l.length + 1) cap ∧ B ≤ g ∧ g < w.heap.size ∧
    w.cell? ⟨g, l.length * 5, none⟩ = some (.int .i64 z.k) ∧ w.cell? ⟨g, l.length * 5 + 1, none⟩ = some (.int .i64 z.n) ∧ w.cell? ⟨g, l.length * 5 + 2, none⟩ = some (.string z.s) ∧ w.cell? ⟨g, l.length * 5 + 3, none⟩ = some (.slice z.ka z.kn z.kc) ∧ w.cell? ⟨g, l.length * 5 + 4, none⟩ = some (.slice z.la z.ln z.lc) ∧ ∀ o, w.frozen? ⟨g, o, none⟩ = false := by
  have hh := h
  rcases h.form with ⟨_, e⟩ | ⟨g, cap, rfl, hB, hg, hnc, hcm, hr⟩
  · simp at e
  · have hlast : (l ++ [z])[l.length]? = some z := by simp
    have hc := fun i u (hu : (EV.enc z)[i]? = some u) => hr.at_ l.length z hlast i u hu
    have hk : EV.k = 5 := rfl
    simp only [hk, Nat.zero_add] at hc
    refine ⟨g, cap, by simp, hB, hg, by simpa using hc 0 _ rfl, hc 1 _ rfl, hc 2 _ rfl, hc 3 _ rfl, hc 4 _ rfl, fun o => ?_⟩
    rcases hh.2 with ⟨e, _⟩ | ⟨g', cap', cur, e, _, hg2, _⟩
    · cases e
    · injection e with e1 e2 e3
      injection e1 with e1
      injection e1 with e1 _ _
      subst e1
      exact unfrozen_of_block hg2 o

theorem ERow.newAt {α : Type} (E : El α) {w : World} {g : Nat} {T : TypeId} {fr : Nat × Nat} (x : α) (h : w.heap[g]? = some (.cells (E.enc x).toArray T fr)) : ERow E w (some ⟨g, 0, .none⟩) 1 [x] := by
  refine ⟨rfl, (fun e => nomatch e), fun y e j v hj => ?_⟩
  obtain rfl : ⟨g, 0, .none⟩ = y := by simpa using e
  have e2 : E.encs [x] = E.enc x := by simp [El.encs]
  rw [e2] at hj
  rw [addr_add, Nat.zero_add, cell_of_block h]
  simpa using hj

theorem EOwn.setOther {α : Type} {E : El α} {w : World} {B N o : Nat} {v u : Value} {l : List α} (h : EOwn E w B v l) (hN : ∀ k, v.ownBlock = some k → k ≠ N) : EOwn E (w.setCell ⟨N, o, none⟩ u) B v l := by
  refine ⟨h.1, ?_⟩
  rcases h.2 with h' | ⟨g, cap, cur, e, h1, h2, h3⟩
  · exact .inl h'
  · refine .inr ⟨g, cap, cur, e, h1, ?_, h3⟩
    rw [Below.heap_setCell _ _ _ _ (hN g (by rw [e]; rfl))]
    exact h2

/-- All but block N, a row and what is new is as it was. -/
structure Gx (N : Nat) (ob : Option Nat) (w w' : World) : Prop where
  os : w'.os = w.os
  tape : w'.tape = w.tape
  output : w'.output = w.output
  size : w.heap.size ≤ w'.heap.size
  block : ∀ k, k < w.heap.size → k ≠ N → some k ≠ ob → w'.heap[k]? = w.heap[k]?
theorem Gx.grown {N : Nat} {ob r : Option Nat} {w w1 w2 : World} (h : Gx N ob w w1) (k : w1.grownBy w2 r) (hr : ∀ j, r = some j → j = N ∨ some j = ob ∨ w.heap.size ≤ j) : Gx N ob w w2 :=
  ⟨k.os.trans h.os, k.tape.trans h.tape, k.output.trans h.output, Nat.le_trans h.size k.size, fun i hi h1 h2 => (k.block i (Nat.lt_of_lt_of_le hi h.size) (fun e => by
    rcases hr i e.symm with h3 | h3 | h3
    · exact h1 h3
    · exact h2 h3
    · omega)).trans (h.block i hi h1 h2)⟩
theorem Gx.fr {N B b c : Nat} {ob : Option Nat} {w w' : World} (h : Gx N ob w w') (hB : B ≤ N) (hw : B ≤ w.heap.size) (ho : ∀ k, ob = some k → B ≤ k) : Fr B b c w w' :=
  ⟨h.os, h.tape, h.output, h.size, fun k hk _ _ => h.block k (by omega) (by omega) (fun e => by have := ho k e.symm; omega)⟩
theorem VH.mono {w : World} {Q Q' : Nat → Prop} {d : Nat} {x : Val d} {v : SV} (h : VH w Q d x v) (hQ : ∀ k, Q k → Q' k) : VH w Q' d x v := h.keep (fun _ _ _ => rfl) (fun k hq _ => hQ k hq)

theorem row_item {N2 : Nat} {us : List SV} {v0 z : SV} {W3 w4 : World} {L k0 n0 s0 K : Value} {g cap4 : Nat}
    (hB : Box W3 N2 #[k0, n0, s0, K, L])
    (o4 : EOwn EV w4 (N2 + 1) (.slice (some ⟨g, 0, none⟩) (us.length + 1) cap4) (us ++ [z])) (g5 : W3.grownBy w4 L.ownBlock) (t4 : some g = L.ownBlock ∨ W3.heap.size ≤ g) (hl : ∀ k, L.ownBlock = some k → N2 + 1 ≤ k) (hg : N2 + 1 ≤ g)
    (W5 : World) (h5 : W5 = (put5 w4 g (us.length * 5) v0).setCell ⟨N2, 4, none⟩ (.slice (some ⟨g, 0, none⟩) (us.length + 1) cap4) ∨ W5 = put5 (w4.setCell ⟨N2, 4, none⟩ (.slice (some ⟨g, 0, none⟩) (us.length + 1) cap4)) g (us.length * 5) v0) :
    Gx N2 L.ownBlock W3 W5 ∧ Box W5 N2 #[k0, n0, s0, K, .slice (some ⟨g, 0, none⟩) (us.length + 1) cap4] ∧ EOwn EV W5 (N2 + 1) (.slice (some ⟨g, 0, none⟩) (us.length + 1) cap4) (us ++ [v0]) := by
  have hB4 := hB.kept g5 (fun e => by have := hl N2 e; omega)
  have hgN : g ≠ N2 := by omega
  have hg3 : ∀ j, (some g : Option Nat) = some j → j = N2 ∨ some j = L.ownBlock ∨ W3.heap.size ≤ j := fun j e => by
    have e2 : g = j := Option.some.inj e
    subst e2
    rcases t4 with h2 | h2
    · exact .inr (.inl h2)
    · exact .inr (.inr h2)
  have hn3 : ∀ j, (some N2 : Option Nat) = some j → j = N2 ∨ some j = L.ownBlock ∨ W3.heap.size ≤ j := fun j e => .inl (Option.some.inj e).symm
  have G4 : Gx N2 L.ownBlock W3 w4 := ⟨g5.os, g5.tape, g5.output, g5.size, fun k hk _ h2 => g5.block k hk h2⟩
  rcases h5 with rfl | rfl
  · have gp := put5_grown w4 g (us.length * 5) v0
    have op := own_put o4 v0
    generalize put5 w4 g (us.length * 5) v0 = w5 at *
    exact ⟨(G4.grown gp hg3).grown (grownBy_setCell _ _ _ _) hn3, (hB4.kept gp (fun e => hgN (Option.some.inj e))).set 4 _ (by simp), op.setOther (fun k e => by have : g = k := Option.some.inj e; omega)⟩
  · have gs := grownBy_setCell w4 N2 4 (.slice (some ⟨g, 0, none⟩) (us.length + 1) cap4)
    have bs := hB4.set 4 (.slice (some ⟨g, 0, none⟩) (us.length + 1) cap4) (by simp)
    have os := o4.setOther (N := N2) (o := 4) (u := .slice (some ⟨g, 0, none⟩) (us.length + 1) cap4) (fun k e => by have : g = k := Option.some.inj e; omega)
    generalize w4.setCell ⟨N2, 4, none⟩ (.slice (some ⟨g, 0, none⟩) (us.length + 1) cap4) = w5 at *
    have gp := put5_grown w5 g (us.length * 5) v0
    have op := own_put os v0
    generalize put5 w5 g (us.length * 5) v0 = w6 at *
    exact ⟨(G4.grown gs hn3).grown gp hg3, bs.kept gp (fun e => hgN (Option.some.inj e)), op⟩

theorem add_item {N2 d : Nat} {acc : List (Val d)} {us : List SV} {x : Val d} {v0 z : SV} {W3 w4 : World} {L k0 n0 s0 K : Value} {g cap4 : Nat} {Q : Nat → Prop}
    (hB : Box W3 N2 #[k0, n0, s0, K, L]) (hQ : ∀ k, Q k → N2 < k ∧ some k ≠ L.ownBlock) (hA : All2 (VH W3 Q d) acc us) (hV : VH W3 Q d x v0)
    (o4 : EOwn EV w4 (N2 + 1) (.slice (some ⟨g, 0, none⟩) (us.length + 1) cap4) (us ++ [z])) (g5 : W3.grownBy w4 L.ownBlock) (t4 : some g = L.ownBlock ∨ W3.heap.size ≤ g) (hl : ∀ k, L.ownBlock = some k → N2 + 1 ≤ k) (hg : N2 + 1 ≤ g)
    (W5 : World) (h5 : W5 = (put5 w4 g (us.length * 5) v0).setCell ⟨N2, 4, none⟩ (.slice (some ⟨g, 0, none⟩) (us.length + 1) cap4) ∨ W5 = put5 (w4.setCell ⟨N2, 4, none⟩ (.slice (some ⟨g, 0, none⟩) (us.length + 1) cap4)) g (us.length * 5) v0) :
    Gx N2 L.ownBlock W3 W5 ∧ Box W5 N2 #[k0, n0, s0, K, .slice (some ⟨g, 0, none⟩) (us.length + 1) cap4] ∧ EOwn EV W5 (N2 + 1) (.slice (some ⟨g, 0, none⟩) (us.length + 1) cap4) (us ++ [v0]) ∧ All2 (VH W5 (fun k => Q k ∧ k ≠ g) d) (acc ++ [x]) (us ++ [v0]) := by
  have key := row_item (v0 := v0) hB o4 g5 t4 hl hg W5 h5
  refine ⟨key.1, key.2.1, key.2.2, ?_⟩
  have hk : ∀ k, Q k → k < W3.heap.size → W5.heap[k]? = W3.heap[k]? := fun k hq hk => key.1.block k hk (by have := (hQ k hq).1; omega) (hQ k hq).2
  have hq : ∀ k, Q k → k < W3.heap.size → Q k ∧ k ≠ g := fun k hq hk => ⟨hq, fun e => by
    rcases t4 with h | h
    · exact (hQ k hq).2 (by rw [e]; exact h)
    · omega⟩
  exact (hA.mono fun _ _ h => h.keep hk hq).snoc (hV.keep hk hq)

end Go.Proofs.YtnmmhihfnphjeaaGreatDoor.B

namespace Go.Proofs.YtnmmhihfnphjeaaGreatDoor.B
set_option linter.unusedSimpArgs false
set_option linter.unusedVariables false
open Go.RowKit Go.Vr Go.Sort Go.Tx Go.Lib
open Go.Br hiding Bs
open Go.Proofs.YtnmmhihfnphjeaaGreatDoor.W (IsCur Oth Kept)
attribute [local go_sem] setCellDrewN allocDrewN

theorem VPost.form {b c p dp d : Nat} {s : ByteArray} {w w' : World} {r : R (Val d)} {e : Ending} (h : VPost b c s p dp d w r e w') : ∃ (v : SV) (n : Nat), e = .returned (.tuple #[v.val, .int .i64 n]) := by
  obtain ⟨_, h⟩ := h
  cases r with
  | inl y => obtain ⟨x, q⟩ := y; obtain ⟨_, v, h, _⟩ := h; exact ⟨v, 0, h⟩
  | inr y => obtain ⟨n, q⟩ := y; obtain ⟨_, _, v, h⟩ := h; exact ⟨v, n, h⟩

theorem ret_v {v u : SV} {n m : Nat} (h : Ending.returned (.tuple #[v.val, .int .i64 n]) = .returned (.tuple #[u.val, .int .i64 m])) : v = u ∧ n = m := by
  obtain ⟨a1, a2, a3, a4, a5, a6, a7, a8, a9⟩ := v
  obtain ⟨b1, b2, b3, b4, b5, b6, b7, b8, b9⟩ := u
  simp at h
  obtain ⟨⟨rfl, rfl, rfl, ⟨rfl, rfl, rfl⟩, rfl, rfl, rfl⟩, h⟩ := h
  exact ⟨rfl, by omega⟩

/-- What follows of an item that was read and laid behind the others. -/
theorem list_end {b c p dp N1 N2 d n g cap4 : Nat} {s : ByteArray} {acc : List (Val d)} {us : List SV} {v0 z : SV} {w w1 W3 w4 : World} {L : Value} {r : R (Val d)}
    (hlo : b < N1 ∧ c < N1 ∧ N1 < N2) (hn2 : N2 < w.heap.size) (hb1 : Box W3 N1 #[.pointer (some ⟨b, 0, none⟩)]) (hB : Box W3 N2 #[.int .i64 4, .int .i64 0, .string ⟨#[]⟩, .slice none 0 0, L])
    (hl : ∀ k, L.ownBlock = some k → N2 + 1 ≤ k ∧ k < w.heap.size) (hA : All2 (VH w1 (fun k => N2 < k ∧ some k ≠ L.ownBlock) d) acc us) (h13 : Below w1.heap.size w1 W3) (hbl : b < w1.heap.size ∧ c < w1.heap.size)
    (hv : VPost b c s p dp d w r (.returned (.tuple #[v0.val, .int .i64 n])) w1)
    (o4 : EOwn EV w4 (N2 + 1) (.slice (some ⟨g, 0, none⟩) (us.length + 1) cap4) (us ++ [z])) (g5 : W3.grownBy w4 L.ownBlock) (t4 : some g = L.ownBlock ∨ W3.heap.size ≤ g) (hg : N2 + 1 ≤ g)
    (W5 : World) (h5 : W5 = (put5 w4 g (us.length * 5) v0).setCell ⟨N2, 4, none⟩ (.slice (some ⟨g, 0, none⟩) (us.length + 1) cap4) ∨ W5 = put5 (w4.setCell ⟨N2, 4, none⟩ (.slice (some ⟨g, 0, none⟩) (us.length + 1) cap4)) g (us.length * 5) v0) :
    CPost b c s p dp N2 w r (fun w' x => LSt b c w' N1 N2 d (acc ++ [x])) (fun w' => ∃ v : SV, Box w' N2 v.cells) (.returned (.int .i64 n)) W5 := by
  have hA3 := hA.mono (fun x v h => VH.below h h13)
  have hl2 : ∀ k, L.ownBlock = some k → N2 + 1 ≤ k := fun k e => (hl k e).1
  have hn3 : N2 < W3.heap.size := hB.lt
  obtain ⟨f1, hr⟩ := hv
  cases r with
  | inl y =>
    obtain ⟨x, q⟩ := y
    obtain ⟨hgood, v, hv, hvh⟩ := hr
    obtain ⟨rfl, rfl⟩ := ret_v (m := 0) hv
    have hV3 : VH W3 (fun k => N2 < k ∧ some k ≠ L.ownBlock) d x v0 := (hvh.below h13).mono (fun k hk => ⟨by omega, fun e => by have := (hl k e.symm).2; omega⟩)
    obtain ⟨G, B5, O5, A5⟩ := add_item (x := x) hB (fun k h => h) hA3 hV3 o4 g5 t4 hl2 hg W5 h5
    refine ⟨((f1.mono (by omega)).trans (Fr.ofBelow (h13.mono (by have := f1.size; omega)))).trans (G.fr (by omega) (by omega) (fun k e => by have := hl2 k e; omega)), ?_, rfl, ?_⟩
    · obtain ⟨p', h1, h2, h3⟩ := hgood.below h13
      exact ⟨p', h1, h2, h3.of_blocks (G.block b (by have := h13.size; omega) (by omega) (fun e => by have := hl2 b e.symm; omega)) (G.block c (by have := h13.size; omega) (by omega) (fun e => by have := hl2 c e.symm; omega))⟩
    · exact ⟨hb1.of_block (G.block N1 (by omega) (by omega) (fun e => by have := hl2 N1 e.symm; omega)), hlo, _, _, B5, O5, A5.mono fun x v h => h.mono fun k hk => ⟨hk.1.1, fun e => hk.2 (Option.some.inj e)⟩⟩
  | inr y =>
    obtain ⟨m, q⟩ := y
    obtain ⟨hm, hbad, v, hv⟩ := hr
    obtain ⟨rfl, rfl⟩ := ret_v hv
    obtain ⟨G, B5, -⟩ := row_item (v0 := v0) hB o4 g5 t4 hl2 hg W5 h5
    refine ⟨((f1.mono (by omega)).trans (Fr.ofBelow (h13.mono (by have := f1.size; omega)))).trans (G.fr (by omega) (by omega) (fun k e => by have := hl2 k e; omega)), hm, ?_, rfl, ?_⟩
    · obtain ⟨p', dq, h2, h3⟩ := hbad.below h13
      exact ⟨p', dq, h2, h3.of_blocks (G.block b (by have := h13.size; omega) (by omega) (fun e => by have := hl2 b e.symm; omega)) (G.block c (by have := h13.size; omega) (by omega) (fun e => by have := hl2 c e.symm; omega))⟩
    · exact ⟨⟨4, 0, ⟨#[]⟩, none, 0, 0, some ⟨g, 0, none⟩, us.length + 1, cap4⟩, B5⟩

set_option maxHeartbeats 8000000 in
set_option maxRecDepth 100000 in
theorem list1_rd (d : Nat) (HV : ValueAt d) (b c : Nat) (s : ByteArray) (p dp N1 N2 : Nat) (acc : List (Val d)) (w : World) (h : Rd w b c s p dp) (hs : s.size ≤ 80000) (hd : dp + d = 8) (hl : LSt b c w N1 N2 d acc) (hal : acc.length < 90000) :
    Calls Tryz.prog 90 #[.pointer (some ⟨N1, 0, none⟩), .pointer (some ⟨N2, 0, none⟩)] w (CPost b c s p dp N2 w (valM d (rst s p)) (fun w' x => LSt b c w' N1 N2 d (acc ++ [x])) (fun w' => ∃ v : SV, Box w' N2 v.cells)) := by
  obtain ⟨hb1, ⟨l1, l2, l3⟩, L, us, hb2, ho, ha⟩ := hl
  have hc1 := hb1.c
  have CV := hide (HV b c s p dp w h hs hd)
  have HB1 := hide hb1
  have HB2 := hide hb2
  have HO := hide ho
  have HA := hide ha
  have hN1 := hb1.lt
  have hN2 := hb2.lt
  have hbc := h.lt
  clear hb1 hb2 ho ha h
  go_enter Tryz.func90, Tryz.ntmps90
  go_wp2_with fail
  refine CV.out.mono ?_
  rintro e w1 hm
  obtain ⟨v0, n, rfl⟩ := hm.form
  have HM := hide hm
  have F1 := hm.1
  have HB11 := hide (HB1.out.of_block (F1.block N1 hN1 (by omega) (by omega)))
  have HB21 := hide (HB2.out.of_block (F1.block N2 hN2 (by omega) (by omega)))
  have HO1 := hide (HO.out.fr F1 (Nat.le_refl _) (by omega) (by omega))
  have HA1 := hide (HA.out.mono (fun x v hx => hx.fr (b := b) (c := c) (fun k hk => ⟨by omega, by omega⟩) F1))
  have hL := hide (show us.length = acc.length from HA1.out.len.symm)
  have hs1 := F1.size
  have hLk : ∀ k, L.ownBlock = some k → N2 + 1 ≤ k ∧ k < w.heap.size := fun k e => HO.out.low k e
  have HLk := hide hLk
  have hB3 : Below w1.heap.size w1 (w1.alloc (.cells v0.cells 28)) := (by repeat (first | with_reducible assumption | with_reducible exact Below.refl _ _ | with_reducible refine Below.setCell ?_ (by first | exact Nat.le_refl _ | (simp; done) | (simp; omega)) _ | with_reducible refine bal ?_ _ | with_reducible refine Below.alloc ?_ (by first | exact Nat.le_refl _ | (simp; done) | (simp; omega)) _ | with_reducible refine Below.drew ?_))
  have X3 := Box.new w1 v0.cells 28
  have B13 := hide (HB11.out.later hB3)
  have B23 := HB21.out.later hB3
  have hsz : N2 + 1 ≤ (w1.alloc (.cells v0.cells 28)).heap.size := B23.lt
  have O3 := HO1.out.later hB3
  have H13 := hide hB3
  clear hm hLk hc1 hB3
  go_wp2_with fail
  generalize w1.alloc (.cells v0.cells 28) = W3 at *
  obtain ⟨la, lc, hLe, hlc, hlm, hrow⟩ := O3.any
  have HX3 := hide X3
  have HB23 := hide B23
  have HO3 := hide O3
  have n2 := HB23.out.c
  have n2f := HB23.out.f
  have n2a := fun o => (HB23.out.alloc o).c
  have x3 := HX3.out.c
  have x3a := fun o => (HX3.out.alloc o).c
  rw [hLe] at n2 n2a
  subst hLe
  have HN1 := hide hN1
  have HN2 := hide hN2
  have HBC : Hid (b < w1.heap.size ∧ c < w1.heap.size) := ⟨by omega, by omega⟩
  clear X3 B23 O3 HO1 HB21 HB11 HO HB1 HB2 hbc hlc hlm hrow
  go_region_law
    (first
      | (refine step_eapp EV rfl _ _ rfl (N2 + 1) _ us (some _) 1 1 [SV.zero] rfl rfl (HO3.out.later (by repeat (first | with_reducible assumption | with_reducible exact Below.refl _ _ | with_reducible refine Below.setCell ?_ (by first | exact Nat.le_refl _ | (simp; done) | (simp; omega)) _ | with_reducible refine bal ?_ _ | with_reducible refine Below.alloc ?_ (by first | exact Nat.le_refl _ | (simp; done) | (simp; omega)) _ | with_reducible refine Below.drew ?_))) (ERow.newAt EV SV.zero (by first | exact heap_alloc_new _ _ | simp)) (by have := hL.out; simp; omega) (by first | exact hsz | (simp; omega) | simp) ?_; intro v4 w4 o4 g4 t4; obtain ⟨g, cap4, hv4, hBg, hglt, z0, z1, z2, z3, z4, zf⟩ := own_last o4; subst hv4; have g5 : W3.grownBy w4 (Value.slice la us.length lc).ownBlock := (grownBy_trans (grownBy_below _ (by repeat (first | with_reducible assumption | with_reducible exact Below.refl _ _ | with_reducible refine Below.setCell ?_ (by first | exact Nat.le_refl _ | (simp; done) | (simp; omega)) _ | with_reducible refine bal ?_ _ | with_reducible refine Below.alloc ?_ (by first | exact Nat.le_refl _ | (simp; done) | (simp; omega)) _ | with_reducible refine Below.drew ?_))) g4 (.inl rfl)); have KN4 := HB23.out.kept g5 (fun e => by have := HLk.out N2 e; omega); have n4 := KN4.c; have n4f := KN4.f; have hgN : ¬ g = N2 := (by omega); have hNg : ¬ N2 = g := (by omega); have i1 : (0 : Int) ≤ (us.length : Int) := (by omega); have i2 : (us.length : Int) < ((us.length + 1 : Nat) : Int) := (by omega); have i3 : (us.length : Int) < (us.length : Int) + 1 := (by omega); have T4 : Hid (some g = (Value.slice la us.length lc).ownBlock ∨ W3.heap.size ≤ g) := (by rcases t4 with h | h; exact .inl h; exact .inr (by have e : g = _ := Option.some.inj h; rw [e]; simp)); have HO4 := hide o4; have HG5 := hide g5; clear o4 g5 t4 g4 KN4))
  all_goals
    go_wp2_with fail
    go_ret
    exact list_end ⟨l1, l2, l3⟩ HN2.out B13.out HB23.out HLk.out HA1.out H13.out HBC.out HM.out HO4.out HG5.out T4.out hBg _ (by first | exact .inl (by with_reducible rfl) | exact .inr (by with_reducible rfl))

end Go.Proofs.YtnmmhihfnphjeaaGreatDoor.B
