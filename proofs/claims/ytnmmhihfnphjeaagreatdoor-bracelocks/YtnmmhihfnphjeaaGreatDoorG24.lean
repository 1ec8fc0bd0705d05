/-
  Contracts of write, at each depth; of Text.
  Contract of fieldsOf; rows of locks.
  Contract of told.
-/
import Derived.Test.YtnmmhihfnphjeaaGreatDoorG23

namespace Go.Proofs.YtnmmhihfnphjeaaGreatDoor.B
set_option linter.unusedSimpArgs false
set_option linter.unusedVariables false
open Go.RowKit Go.Vr Go.Sort Go.Tx Go.Lib
open Go.Br hiding Bs
attribute [local go_sem] setCellDrewN allocDrewN

set_option maxHeartbeats 4000000 in
set_option maxRecDepth 100000 in
theorem write_list (d : Nat) (H : WriteAt d) (xs : List (Val d)) (us : List SV) (a : Option Addr) (n c : Nat) (b : Nat) (l : Bs) (w : World) (hk : Bk b l w) (he : EnvB b w) (hr : QRow EV w (fun k => k < b) a n c us) (hv : All2 (VH w (fun k => k < b) d) xs us) (ho : ∀ x ∈ xs, okV d x) (hl : l.length + (91 :: (cjoin (xs.map (textV d)) ++ [93])).length ≤ 1000000) :
    Calls Tryz.prog 22 #[.pointer (some ⟨b, 0, none⟩), .agg #[.int .i64 4, .int .i64 0, .string ⟨#[]⟩, .slice none 0 0, .slice a n c]] w (WPost b l (91 :: (cjoin (xs.map (textV d)) ++ [93])) w) := by
  have B0 : Below w.heap.size w (w.alloc (.cells #[.int .i64 4, .int .i64 0, .string ⟨#[]⟩, .slice none 0 0, .slice a n c] 28)) := (by repeat (first | with_reducible assumption | with_reducible exact Below.refl _ _ | with_reducible refine Below.setCell ?_ (by first | exact Nat.le_refl _ | (simp; done) | (simp; omega)) _ | with_reducible refine bal ?_ _ | with_reducible refine Below.alloc ?_ (by first | exact Nat.le_refl _ | (simp; done) | (simp; omega)) _ | with_reducible refine Below.drew ?_))
  have F0 := hide (WF.ofBelow B0 (Nat.le_of_lt hk.lt))
  have CW := hide (writeList_any d H xs us a n c b l _ (hk.below B0) (he.next F0.out) (hr.wf F0.out) (hv.mono fun x y h => h.wf F0.out) ho hl)
  clear B0 hk he hr hv ho hl H
  generalize 91 :: (cjoin (xs.map (textV d)) ++ [93]) = t at *
  go_enter Tryz.func22, Tryz.ntmps22
  go_wp2_with fail
  refine CW.out.mono ?_
  rintro e w3 ⟨rfl, h2, h3⟩
  have HV := hide (show WPost b l t w (.returned (.tuple #[])) w3 from ⟨rfl, h2, F0.out.trans h3⟩)
  clear h2 h3 CW
  go_wp2_with fail
  exact bodyPost_ret (v := .tuple #[]) (by simp [results, Tryz.results22, go_sem, *]) rfl HV.out

set_option maxHeartbeats 4000000 in
set_option maxRecDepth 100000 in
theorem write_map (d : Nat) (H : WriteAt d) (kxs : List (Bs × Val d)) (us : List SV) (ka : Option Addr) (kn kc : Nat) (la : Option Addr) (n lc : Nat) (b : Nat) (l : Bs) (w : World) (hk : Bk b l w) (he : EnvB b w) (hrk : QRow ET w (fun k => k < b) ka kn kc (kxs.map Prod.fst)) (hr : QRow EV w (fun k => k < b) la n lc us) (hv : All2 (VH w (fun k => k < b) d) (kxs.map Prod.snd) us) (ho : ∀ kx ∈ kxs, okV d kx.2) (hl : l.length + (123 :: (cjoin (kxs.map (pairT d)) ++ [125])).length ≤ 1000000) :
    Calls Tryz.prog 22 #[.pointer (some ⟨b, 0, none⟩), .agg #[.int .i64 5, .int .i64 0, .string ⟨#[]⟩, .slice ka kn kc, .slice la n lc]] w (WPost b l (123 :: (cjoin (kxs.map (pairT d)) ++ [125])) w) := by
  have B0 : Below w.heap.size w (w.alloc (.cells #[.int .i64 5, .int .i64 0, .string ⟨#[]⟩, .slice ka kn kc, .slice la n lc] 28)) := (by repeat (first | with_reducible assumption | with_reducible exact Below.refl _ _ | with_reducible refine Below.setCell ?_ (by first | exact Nat.le_refl _ | (simp; done) | (simp; omega)) _ | with_reducible refine bal ?_ _ | with_reducible refine Below.alloc ?_ (by first | exact Nat.le_refl _ | (simp; done) | (simp; omega)) _ | with_reducible refine Below.drew ?_))
  have F0 := hide (WF.ofBelow B0 (Nat.le_of_lt hk.lt))
  have CW := hide (writeMap_any d H kxs us ⟨5, 0, ⟨#[]⟩, ka, kn, kc, la, n, lc⟩ b l _ (hk.below B0) (he.next F0.out) ⟨rfl, rfl, rfl⟩ (hrk.wf F0.out) (hr.wf F0.out) (hv.mono fun x y h => h.wf F0.out) ho hl)
  clear B0 hk he hrk hr hv ho hl H
  generalize 123 :: (cjoin (kxs.map (pairT d)) ++ [125]) = t at *
  go_enter Tryz.func22, Tryz.ntmps22
  go_wp2_with fail
  refine CW.out.mono ?_
  rintro e w3 ⟨rfl, h2, h3⟩
  have HV := hide (show WPost b l t w (.returned (.tuple #[])) w3 from ⟨rfl, h2, F0.out.trans h3⟩)
  clear h2 h3 CW
  go_wp2_with fail
  exact bodyPost_ret (v := .tuple #[]) (by simp [results, Tryz.results22, go_sem, *]) rfl HV.out

/-- Writing, at each depth. -/
theorem write_at : ∀ d : Nat, WriteAt d
  | 0 => by
    intro x v b l w hk he hv ho hl
    obtain rfl : v = leafSV x := hv
    exact write_leaf x b l w hk he ho hl
  | d + 1 => by
    intro x v b l w hk he hv ho hl
    match x, hv, ho, hl with
    | Sum.inl x, hv, ho, hl =>
      obtain rfl : v = leafSV x := hv
      exact write_leaf x b l w hk he ho hl
    | Sum.inr (Sum.inl xs), hv, ho, hl =>
      obtain ⟨vk, vn, vs, ka, kn, kc, la, n, lc⟩ := v
      obtain ⟨⟨rfl, rfl, rfl, rfl, rfl, rfl⟩, us, h2, h3⟩ := hv
      exact write_list d (write_at d) xs us la n lc b l w hk he h2 h3 ho hl
    | Sum.inr (Sum.inr kxs), hv, ho, hl =>
      obtain ⟨vk, vn, vs, ka, kn, kc, la, n, lc⟩ := v
      obtain ⟨⟨rfl, rfl, rfl⟩, h0, us, h2, h3⟩ := hv
      exact write_map d (write_at d) kxs us ka kn kc la n lc b l w hk he h0 h2 h3 (fun kx h => (ho.2 kx h).2) hl

theorem Bk.new (w : World) : Bk w.heap.size [] (w.alloc (.cells #[.pointer none, .slice none 0 0] 56)) :=
  .inl ⟨Nat.le_refl _, .slice none 0 0, heap_alloc_new _ _, World.ownsRowF_of (World.ownsRow_nil _ _ _ _), by simp [Value.ownBlock]⟩

set_option maxHeartbeats 4000000 in
set_option maxRecDepth 100000 in
/-- Text. -/
theorem text_any (d : Nat) (x : Val d) (v : SV) (Q : Nat → Prop) (w : World) (he : Env w) (hv : VH w Q d x v) (ho : okV d x) (hl : (textV d x).length ≤ 1000000) :
    Calls Tryz.prog 10 #[v.val] w fun e w' => e = .returned (.string (str (textV d x))) ∧ Below w.heap.size w w' := by
  obtain ⟨vk, vn, vs, ka, kn, kc, la, n, lc⟩ := v
  have B0 : Below w.heap.size w (w.alloc (.cells #[.int .i64 vk, .int .i64 vn, .string vs, .slice ka kn kc, .slice la n lc] 28)) := (by repeat (first | with_reducible assumption | with_reducible exact Below.refl _ _ | with_reducible refine Below.setCell ?_ (by first | exact Nat.le_refl _ | (simp; done) | (simp; omega)) _ | with_reducible refine bal ?_ _ | with_reducible refine Below.alloc ?_ (by first | exact Nat.le_refl _ | (simp; done) | (simp; omega)) _ | with_reducible refine Below.drew ?_))
  have B1 := hide (show Below w.heap.size w ((w.alloc (.cells #[.int .i64 vk, .int .i64 vn, .string vs, .slice ka kn kc, .slice la n lc] 28)).alloc (.cells #[.pointer none, .slice none 0 0] 56)) from (by repeat (first | with_reducible assumption | with_reducible exact Below.refl _ _ | with_reducible refine Below.setCell ?_ (by first | exact Nat.le_refl _ | (simp; done) | (simp; omega)) _ | with_reducible refine bal ?_ _ | with_reducible refine Below.alloc ?_ (by first | exact Nat.le_refl _ | (simp; done) | (simp; omega)) _ | with_reducible refine Below.drew ?_)))
  have K1 := Bk.new (w.alloc (.cells #[.int .i64 vk, .int .i64 vn, .string vs, .slice ka kn kc, .slice la n lc] 28))
  have hsz : (w.alloc (.cells #[.int .i64 vk, .int .i64 vn, .string vs, .slice ka kn kc, .slice la n lc] 28)).heap.size = w.heap.size + 1 := by simp
  rw [hsz] at K1
  have E1 : EnvB (w.heap.size + 1) ((w.alloc (.cells #[.int .i64 vk, .int .i64 vn, .string vs, .slice ka kn kc, .slice la n lc] 28)).alloc (.cells #[.pointer none, .slice none 0 0] 56)) := ⟨w, he, by omega, B1.out⟩
  have V1 := hv.keep (w' := (w.alloc (.cells #[.int .i64 vk, .int .i64 vn, .string vs, .slice ka kn kc, .slice la n lc] 28)).alloc (.cells #[.pointer none, .slice none 0 0] 56)) (Q' := fun k => k < w.heap.size + 1) (fun k _ hk => B1.out.block k hk) (fun k _ hk => Nat.lt_succ_of_lt hk)
  have CW := hide (write_at d x ⟨vk, vn, vs, ka, kn, kc, la, n, lc⟩ (w.heap.size + 1) [] _ K1 E1 V1 ho (by simp; omega))
  generalize textV d x = t at *
  clear K1 E1 V1 hsz hv ho hl he B0
  go_enter Tryz.func10, Tryz.ntmps10
  go_wp2_with fail
  refine CW.out.mono ?_
  rintro e w2 ⟨rfl, k2, f2⟩
  have CS := hide (bstr _ _ w2 k2)
  have B2 := hide (B1.out.trans (f2.lo.mono (by omega)))
  clear k2 f2 CW B1
  go_wp2_with fail
  refine CS.out.mono ?_
  rintro e w3 ⟨rfl, f3⟩
  have B3 := B2.out.trans (f3.lo.mono (by omega))
  clear f3 CS B2
  go_wp2_with fail
  go_ret
  exact ⟨rfl, B3⟩

end Go.Proofs.YtnmmhihfnphjeaaGreatDoor.B

namespace Go.Proofs.YtnmmhihfnphjeaaGreatDoor.B
set_option linter.unusedSimpArgs false
set_option linter.unusedVariables false
open Go.RowKit Go.Vr Go.Sort Go.Tx Go.Lib
open Go.Br hiding Bs
attribute [local go_sem] setCellDrewN allocDrewN

/-- The fields' cells, of a lock in block N. -/
abbrev fcells (N : Nat) : Array Value := #[.string ⟨#[112, 97, 116, 104]⟩, .pointer (some ⟨N, 0, none⟩), .string ⟨#[114, 101, 118, 105, 115, 105, 111, 110]⟩, .pointer (some ⟨N, 2, none⟩), .string ⟨#[118, 101, 114, 115, 105, 111, 110]⟩, .pointer (some ⟨N, 1, none⟩), .string ⟨#[119, 105, 116, 104, 105, 110]⟩, .pointer (some ⟨N, 3, none⟩), .string ⟨#[111, 114, 105, 103, 105, 110]⟩, .pointer (some ⟨N, 4, none⟩)]

/-- A lock's cells. -/
abbrev lkc (x : Lk) : Array Value := #[.string (str x.root), .string (str x.ver), .string (str x.rev), .string (str x.within), .string (str x.source)]
def ELk : El Lk where
  enc := fun x => [.string (str x.root), .string (str x.ver), .string (str x.rev), .string (str x.within), .string (str x.source)]
  k := 5
  T := 49
  TS := 39
  z := .agg #[.string ⟨#[]⟩, .string ⟨#[]⟩, .string ⟨#[]⟩, .string ⟨#[]⟩, .string ⟨#[]⟩]
  bytes := 80
  hk := fun _ => rfl
  one := by
    intro x u hu
    simp only [List.mem_cons, List.not_mem_nil, or_false] at hu
    rcases hu with rfl | rfl | rfl | rfl | rfl <;> rfl
  ht := Tryz.underlying39
  hi := ⟨Tryz.t49, by kernel_rfl, by kernel_rfl, by kernel_rfl, by kernel_rfl⟩
  hzs := by kernel_rfl
  hk0 := by decide
  hby := by decide
theorem ELk_at {w : World} {b off len : Nat} {l : List Lk} (h : ERow ELk w (some ⟨b, off, none⟩) len l) (j : Nat) (x : Lk) (hj : l[j]? = some x) :
    w.cell? ⟨b, off + j * 5, none⟩ = some (.string (str x.root)) ∧ w.cell? ⟨b, off + j * 5 + 1, none⟩ = some (.string (str x.ver)) ∧ w.cell? ⟨b, off + j * 5 + 2, none⟩ = some (.string (str x.rev)) ∧ w.cell? ⟨b, off + j * 5 + 3, none⟩ = some (.string (str x.within)) ∧ w.cell? ⟨b, off + j * 5 + 4, none⟩ = some (.string (str x.source)) :=
  ⟨h.at_ j x hj 0 _ rfl, h.at_ j x hj 1 _ rfl, h.at_ j x hj 2 _ rfl, h.at_ j x hj 3 _ rfl, h.at_ j x hj 4 _ rfl⟩

/-- The k-th field: where it stands in a lock, its key, what it says. -/
theorem fld (x : Lk) (N k : Nat) (h : k < 5) : ∃ (i : Nat) (key s : Bs), (fieldsL x)[k]? = some (key, s) ∧ (fcells N)[k * 2]? = some (.string (str key)) ∧ (fcells N)[k * 2 + 1]? = some (.pointer (some ⟨N, i, none⟩)) ∧ (lkc x)[i]? = some (.string (str s)) ∧ i < 5 := by
  match k, h with
  | 0, _ => exact ⟨0, kPath, x.root, rfl, rfl, rfl, rfl, by decide⟩
  | 1, _ => exact ⟨2, kRev, x.rev, rfl, rfl, rfl, rfl, by decide⟩
  | 2, _ => exact ⟨1, kVer, x.ver, rfl, rfl, rfl, rfl, by decide⟩
  | 3, _ => exact ⟨3, kWithin, x.within, rfl, rfl, rfl, rfl, by decide⟩
  | 4, _ => exact ⟨4, kOrigin, x.source, rfl, rfl, rfl, rfl, by decide⟩

set_option maxHeartbeats 4000000 in
set_option maxRecDepth 100000 in
theorem fieldsOf_any (N : Nat) (w : World) :
    Calls Tryz.prog 48 #[.pointer (some ⟨N, 0, none⟩)] w fun e w' => e = .returned (.slice (some ⟨w.heap.size, 0, none⟩) 5 5) ∧ Below w.heap.size w w' ∧ Box w' w.heap.size (fcells N) := by
  go_enter Tryz.func48, Tryz.ntmps48
  go_wp2_with fail
  go_region_law (fail)
  rename_i K hK
  refine hK _ _ ?_
  go_wp2_with fail
  exact bodyPost_ret (v := .slice (some ⟨w.heap.size, 0, none⟩) 5 5) (by simp [results, Tryz.results48, go_sem, *]) rfl ⟨rfl, (by repeat (first | with_reducible assumption | with_reducible exact Below.refl _ _ | with_reducible refine Below.setCell ?_ (by first | exact Nat.le_refl _ | (simp; done) | (simp; omega)) _ | with_reducible refine bal ?_ _ | with_reducible refine Below.alloc ?_ (by first | exact Nat.le_refl _ | (simp; done) | (simp; omega)) _ | with_reducible refine Below.drew ?_)), (Box.new w (fcells N) 99).drewN _⟩

end Go.Proofs.YtnmmhihfnphjeaaGreatDoor.B

namespace Go.Proofs.YtnmmhihfnphjeaaGreatDoor.B
set_option linter.unusedSimpArgs false
set_option linter.unusedVariables false
open Go.RowKit Go.Vr Go.Sort Go.Tx Go.Lib
open Go.Br hiding Bs
attribute [local go_sem] setCellDrewN allocDrewN

/-- The fields that say something, of the first k. -/
def hk (x : Lk) (k : Nat) : List (Bs × Bs) := ((fieldsL x).take k).filter fun f => f.2 != []
theorem hk_next {x : Lk} {k : Nat} {f : Bs × Bs} (h : (fieldsL x)[k]? = some f) : hk x (k + 1) = if f.2 = [] then hk x k else hk x k ++ [f] := by
  unfold hk
  have hl : k < (fieldsL x).length := (List.getElem?_eq_some_iff.1 h).1
  rw [List.take_succ_eq_append_getElem hl, (List.getElem?_eq_some_iff.1 h).2, List.filter_append]
  by_cases h0 : f.2 = []
  · rw [if_pos h0]
    simp [h0]
  · rw [if_neg h0]
    simp [h0]
theorem hk_all (x : Lk) : hk x 5 = hereL x := rfl

/-- A field as a leaf. -/
abbrev lfs (f : Bs × Bs) : SV := leafSV (.inl f.2)

/-- A map in the making, its rows in blocks from B on. -/
structure MV (w : World) (B N : Nat) (ks : List Bs) (us : List SV) (K L : Value) : Prop where
  bx : Box w N #[.int .i64 5, .int .i64 0, .string ⟨#[]⟩, K, L]
  lt : N < B
  k : EOwn ET w B K ks
  l : EOwn EV w B L us
  d : ∀ j, K.ownBlock = some j → L.ownBlock ≠ some j
theorem MV.later {w w' : World} {B N : Nat} {ks : List Bs} {us : List SV} {K L : Value} (h : MV w B N ks us K L) (hb : Below w.heap.size w w') : MV w' B N ks us K L := ⟨h.bx.later hb, h.lt, h.k.later hb, h.l.later hb, h.d⟩
theorem Box.gx {w w' : World} {N M : Nat} {ob : Option Nat} {vs : Array Value} (h : Box w M vs) (g : Gx N ob w w') (hN : M ≠ N) (ho : some M ≠ ob) : Box w' M vs := h.of_block (g.block M h.lt hN ho)
theorem MV.key {w w4 : World} {B N : Nat} {ks : List Bs} {us : List SV} {K L K' : Value} {k : Bs} (h : MV w B N ks us K L) (o4 : EOwn ET w4 B K' (ks ++ [k])) (g4 : w.grownBy w4 K.ownBlock) (t4 : K'.ownBlock = K.ownBlock ∨ ∀ j, K'.ownBlock = some j → w.heap.size ≤ j) :
    MV (w4.setCell ⟨N, 3, none⟩ K') B N (ks ++ [k]) us K' L ∧ Gx N K.ownBlock w (w4.setCell ⟨N, 3, none⟩ K') := by
  have hK := fun j e => (h.k.low j e)
  have hL := fun j e => (h.l.low j e)
  have hlt := h.lt
  have hB4 := h.bx.kept g4 (fun e => by have := (hK N e).1; omega)
  have G4 : Gx N K.ownBlock w w4 := ⟨g4.os, g4.tape, g4.output, g4.size, fun k hk _ h2 => g4.block k hk h2⟩
  have G : Gx N K.ownBlock w (w4.setCell ⟨N, 3, none⟩ K') := G4.grown (grownBy_setCell _ _ _ _) (fun j e => .inl (Option.some.inj e).symm)
  refine ⟨⟨hB4.set 3 _ (by simp), h.lt, o4.setOther (fun j e => by have := (o4.low j e).1; omega), h.l.gx G (fun j e => ⟨by have := (hL j e).1; omega, fun e2 => h.d j e2.symm e⟩), fun j e e2 => ?_⟩, G⟩
  rcases t4 with t | t
  · exact h.d j (by rw [← t]; exact e) e2
  · have := t j e; have := (hL j e2).2; omega
theorem MV.val {w w4 : World} {B N : Nat} {ks : List Bs} {us : List SV} {K L L' : Value} {v : SV} (h : MV w B N ks us K L) (o4 : EOwn EV w4 B L' (us ++ [v])) (g4 : w.grownBy w4 L.ownBlock) (t4 : L'.ownBlock = L.ownBlock ∨ ∀ j, L'.ownBlock = some j → w.heap.size ≤ j) :
    MV (w4.setCell ⟨N, 4, none⟩ L') B N ks (us ++ [v]) K L' ∧ Gx N L.ownBlock w (w4.setCell ⟨N, 4, none⟩ L') := by
  have hK := fun j e => (h.k.low j e)
  have hL := fun j e => (h.l.low j e)
  have hlt := h.lt
  have hB4 := h.bx.kept g4 (fun e => by have := (hL N e).1; omega)
  have G4 : Gx N L.ownBlock w w4 := ⟨g4.os, g4.tape, g4.output, g4.size, fun k hk _ h2 => g4.block k hk h2⟩
  have G : Gx N L.ownBlock w (w4.setCell ⟨N, 4, none⟩ L') := G4.grown (grownBy_setCell _ _ _ _) (fun j e => .inl (Option.some.inj e).symm)
  refine ⟨⟨hB4.set 4 _ (by simp), h.lt, h.k.gx G (fun j e => ⟨by have := (hK j e).1; omega, fun e2 => h.d j e e2.symm⟩), o4.setOther (fun j e => by have := (o4.low j e).1; omega), fun j e e2 => ?_⟩, G⟩
  rcases t4 with t | t
  · exact h.d j e (by rw [← t]; exact e2)
  · have := t j e2; have := (hK j e).2; omega

/-- told's state: the lock, the result, the fields, the map in the making. -/
structure TSt (w wr : World) (x : Lk) (k : Nat) : Prop where
  b0 : Box wr w.heap.size (lkc x)
  b1 : Box wr (w.heap.size + 1) SV.zero.cells
  bg : Box wr (w.heap.size + 3) (fcells w.heap.size)
  ex : ∃ K L, MV wr (w.heap.size + 4) (w.heap.size + 2) ((hk x k).map Prod.fst) ((hk x k).map lfs) K L
  lo : Below w.heap.size w wr

theorem tst_end {w W5 w6 : World} {x : Lk} {k : Nat} {key s : Bs} {K L L' : Value} (hN : hk x (k + 1) = hk x k ++ [(key, s)]) (h5 : Box W5 w.heap.size (lkc x) ∧ Box W5 (w.heap.size + 1) SV.zero.cells ∧ Box W5 (w.heap.size + 3) (fcells w.heap.size) ∧ Below w.heap.size w W5)
    (M5 : MV W5 (w.heap.size + 4) (w.heap.size + 2) ((hk x k).map Prod.fst ++ [key]) ((hk x k).map lfs) K L) (o6 : EOwn EV w6 (w.heap.size + 4) L' ((hk x k).map lfs ++ [lfs (key, s)])) (g6 : W5.grownBy w6 L.ownBlock) (t6 : L'.ownBlock = L.ownBlock ∨ ∀ j, L'.ownBlock = some j → W5.heap.size ≤ j) :
    TSt w (w6.setCell ⟨w.heap.size + 2, 4, none⟩ L') x (k + 1) := by
  obtain ⟨M7, G⟩ := M5.val o6 g6 t6
  obtain ⟨t0, t1, tg, tl⟩ := h5
  have hLo := fun j e => M5.l.low j e
  refine ⟨t0.gx G (by omega) (fun e => by have := (hLo _ e.symm).1; omega), t1.gx G (by omega) (fun e => by have := (hLo _ e.symm).1; omega), tg.gx G (by omega) (fun e => by have := (hLo _ e.symm).1; omega), ⟨K, L', ?_⟩, ?_⟩
  · rw [hN, List.map_append, List.map_append]; exact M7
  · exact ⟨G.os.trans tl.os, G.tape.trans tl.tape, G.output.trans tl.output, Nat.le_trans tl.size G.size, fun j hj => (G.block j (by have := tl.size; omega) (by omega) (fun e => by have := (hLo _ e.symm).1; omega)).trans (tl.block j hj)⟩

theorem EOwn.q {α : Type} {E : El α} {w : World} {B M n c : Nat} {a : Option Addr} {l : List α} (h : EOwn E w B (.slice a n c) l) (hM : M ≤ B) : QRow E w (fun k => M ≤ k) a n c l := by
  obtain ⟨a2, c2, e, h1, h2, h3⟩ := h.any
  injection e with e1 e2 e3
  subst e1 e2 e3
  exact ⟨h3, h1, h2, fun x e _ => by have := (h.low x.block (by rw [e]; rfl)).1; omega⟩

theorem all_leaves (w : World) (Q : Nat → Prop) : ∀ l : List (Bs × Bs), All2 (VH w Q 5) ((l.map leaf5).map Prod.snd) (l.map lfs)
  | [] => trivial
  | _ :: r => ⟨rfl, all_leaves w Q r⟩

theorem tst_fin {w wr : World} {x : Lk} {ka la : Option Addr} {kn kc ln lc : Nat} (b1 : Box wr (w.heap.size + 1) SV.zero.cells) (hlo : Below w.heap.size w wr) (M : MV wr (w.heap.size + 4) (w.heap.size + 2) ((hk x 5).map Prod.fst) ((hk x 5).map lfs) (.slice ka kn kc) (.slice la ln lc)) (W : World)
    (hW : W = ((((wr.setCell ⟨w.heap.size + 1, 0, none⟩ (.int .i64 5)).setCell ⟨w.heap.size + 1, 1, none⟩ (.int .i64 0)).setCell ⟨w.heap.size + 1, 2, none⟩ (.string ⟨#[]⟩)).setCell ⟨w.heap.size + 1, 3, none⟩ (.slice ka kn kc)).setCell ⟨w.heap.size + 1, 4, none⟩ (.slice la ln lc)) :
    Box W (w.heap.size + 1) #[.int .i64 5, .int .i64 0, .string ⟨#[]⟩, .slice ka kn kc, .slice la ln lc] ∧ VH W (fun k => w.heap.size ≤ k) 6 (lockV x) ⟨5, 0, ⟨#[]⟩, ka, kn, kc, la, ln, lc⟩ ∧ Below w.heap.size w W := by
  subst hW
  obtain ⟨h1, h2⟩ := box_set5 b1 (.int .i64 5) (.int .i64 0) (.string ⟨#[]⟩) (.slice ka kn kc) (.slice la ln lc)
  have hK := ((((M.k.setOther (N := w.heap.size + 1) (o := 0) (u := .int .i64 5) (fun j e => by have := (M.k.low j e).1; omega)).setOther (N := w.heap.size + 1) (o := 1) (u := .int .i64 0) (fun j e => by have := (M.k.low j e).1; omega)).setOther (N := w.heap.size + 1) (o := 2) (u := .string ⟨#[]⟩) (fun j e => by have := (M.k.low j e).1; omega)).setOther (N := w.heap.size + 1) (o := 3) (u := .slice ka kn kc) (fun j e => by have := (M.k.low j e).1; omega)).setOther (N := w.heap.size + 1) (o := 4) (u := .slice la ln lc) (fun j e => by have := (M.k.low j e).1; omega)
  have hL := ((((M.l.setOther (N := w.heap.size + 1) (o := 0) (u := .int .i64 5) (fun j e => by have := (M.l.low j e).1; omega)).setOther (N := w.heap.size + 1) (o := 1) (u := .int .i64 0) (fun j e => by have := (M.l.low j e).1; omega)).setOther (N := w.heap.size + 1) (o := 2) (u := .string ⟨#[]⟩) (fun j e => by have := (M.l.low j e).1; omega)).setOther (N := w.heap.size + 1) (o := 3) (u := .slice ka kn kc) (fun j e => by have := (M.l.low j e).1; omega)).setOther (N := w.heap.size + 1) (o := 4) (u := .slice la ln lc) (fun j e => by have := (M.l.low j e).1; omega)
  refine ⟨h1, ⟨⟨rfl, rfl, rfl⟩, ?_, _, hL.q (by omega), ?_⟩, hlo.trans (h2 _ (by omega))⟩
  · have e : ((hereL x).map leaf5).map Prod.fst = (hk x 5).map Prod.fst := by rw [List.map_map]; rfl
    rw [e]
    exact hK.q (by omega)
  · exact all_leaves _ _ _

set_option maxHeartbeats 8000000 in
set_option maxRecDepth 100000 in
theorem told_any (x : Lk) (w : World) :
    Calls Tryz.prog 32 #[.agg (lkc x)] w fun e w' => ∃ v : SV, e = .returned v.val ∧ VH w' (fun k => w.heap.size ≤ k) 6 (lockV x) v ∧ Below w.heap.size w w' := by
  obtain ⟨x0, x1, x2, x3, x4⟩ := x
  have HB0 := hide (show Below w.heap.size w (((w.alloc (.cells (lkc ⟨x0, x1, x2, x3, x4⟩) 49)).alloc (.cells SV.zero.cells 28)).alloc (.cells #[.int .i64 5, .int .i64 0, .string ⟨#[]⟩, .slice none 0 0, .slice none 0 0] 28)) from (by repeat (first | with_reducible assumption | with_reducible exact Below.refl _ _ | with_reducible refine Below.setCell ?_ (by first | exact Nat.le_refl _ | (simp; done) | (simp; omega)) _ | with_reducible refine bal ?_ _ | with_reducible refine Below.alloc ?_ (by first | exact Nat.le_refl _ | (simp; done) | (simp; omega)) _ | with_reducible refine Below.drew ?_)))
  have CF := hide (fieldsOf_any w.heap.size (((w.alloc (.cells (lkc ⟨x0, x1, x2, x3, x4⟩) 49)).alloc (.cells SV.zero.cells 28)).alloc (.cells #[.int .i64 5, .int .i64 0, .string ⟨#[]⟩, .slice none 0 0, .slice none 0 0] 28)))
  go_enter Tryz.func32, Tryz.ntmps32
  go_wp2_with fail
  refine CF.out.mono ?_
  rintro e w1 ⟨rfl, b1, bg⟩
  have hB0 := ((Box.new w (lkc ⟨x0, x1, x2, x3, x4⟩) 49).alloc (.cells SV.zero.cells 28)).alloc (.cells #[.int .i64 5, .int .i64 0, .string ⟨#[]⟩, .slice none 0 0, .slice none 0 0] 28)
  have hB1 := (Box.new (w.alloc (.cells (lkc ⟨x0, x1, x2, x3, x4⟩) 49)) SV.zero.cells 28).alloc (.cells #[.int .i64 5, .int .i64 0, .string ⟨#[]⟩, .slice none 0 0, .slice none 0 0] 28)
  have hB2 := Box.new ((w.alloc (.cells (lkc ⟨x0, x1, x2, x3, x4⟩) 49)).alloc (.cells SV.zero.cells 28)) #[.int .i64 5, .int .i64 0, .string ⟨#[]⟩, .slice none 0 0, .slice none 0 0] 28
  have hs1 : (w.alloc (.cells (lkc ⟨x0, x1, x2, x3, x4⟩) 49)).heap.size = w.heap.size + 1 := by simp
  have hs2 : ((w.alloc (.cells (lkc ⟨x0, x1, x2, x3, x4⟩) 49)).alloc (.cells SV.zero.cells 28)).heap.size = w.heap.size + 2 := by simp
  have hs3 : (((w.alloc (.cells (lkc ⟨x0, x1, x2, x3, x4⟩) 49)).alloc (.cells SV.zero.cells 28)).alloc (.cells #[.int .i64 5, .int .i64 0, .string ⟨#[]⟩, .slice none 0 0, .slice none 0 0] 28)).heap.size = w.heap.size + 3 := by simp
  rw [hs1] at hB1
  rw [hs2] at hB2
  rw [hs3] at bg
  have HT1 : Hid (TSt w w1 ⟨x0, x1, x2, x3, x4⟩ 0) := ⟨hB0.later b1, hB1.later b1, bg, ⟨_, _, hB2.later b1, by omega, EOwn.nil _ _, EOwn.nil _ _, fun j e => nomatch e⟩, HB0.out.trans (b1.mono HB0.out.size)⟩
  clear hB0 hB1 hB2 hs1 hs2 hs3 b1 bg CF HB0
  go_wp2_with fail
  go_loopw [9] (fun i wr => ∃ k : Nat, k ≤ 5 ∧ i = .int .i64 k ∧ Hid (TSt w wr ⟨x0, x1, x2, x3, x4⟩ k)) (fun i _ => 5 - (RowKit.intOf i).toNat)
  case atStart => exact ⟨0, Nat.zero_le _, rfl, HT1⟩
  case round =>
    obtain ⟨k, hk5, rfl, HT⟩ := hrel
    clear HT1
    by_cases hlt : k < 5
    · obtain ⟨i, key, s, hf, h1, h2, h3, hi⟩ := fld ⟨x0, x1, x2, x3, x4⟩ w.heap.size k hlt
      have HF := hide hf
      have HN := hide (hk_next hf)
      have d0 : wr.cell? ⟨w.heap.size + 3, k * 2, none⟩ = some (.string (str key)) := by rw [HT.out.bg.c, h1]
      have d1 : wr.cell? ⟨w.heap.size + 3, k * 2 + 1, none⟩ = some (.pointer (some ⟨w.heap.size, i, none⟩)) := by rw [HT.out.bg.c, h2]
      have B1 : Below wr.heap.size wr (wr.alloc (.cells #[.string (str key), .pointer (some ⟨w.heap.size, i, none⟩)] 99)) := (by repeat (first | with_reducible assumption | with_reducible exact Below.refl _ _ | with_reducible refine Below.setCell ?_ (by first | exact Nat.le_refl _ | (simp; done) | (simp; omega)) _ | with_reducible refine bal ?_ _ | with_reducible refine Below.alloc ?_ (by first | exact Nat.le_refl _ | (simp; done) | (simp; omega)) _ | with_reducible refine Below.drew ?_))
      have c0 : (wr.alloc (.cells #[.string (str key), .pointer (some ⟨w.heap.size, i, none⟩)] 99)).cell? ⟨w.heap.size, i, none⟩ = some (.string (str s)) := by rw [(HT.out.b0.later B1).c, h3]
      have i1 : (0 : Int) ≤ (k : Int) := by omega
      have i2 : (k : Int) < 5 := by omega
      have HB1 := hide B1
      have hlt' := hide hlt
      have T1 : Hid (TSt w (wr.alloc (.cells #[.string (str key), .pointer (some ⟨w.heap.size, i, none⟩)] 99)) ⟨x0, x1, x2, x3, x4⟩ k) := by
        obtain ⟨t0, t1, tg, ⟨K, L, tm⟩, tl⟩ := HT.out
        exact ⟨t0.later B1, t1.later B1, tg.later B1, ⟨K, L, tm.later B1⟩, tl.trans (B1.mono tl.size)⟩
      have HI := hide h3
      clear hf h1 h2 h3 B1 hi
      by_cases hs : s = []
      · have hE : (str s).toList.isEmpty = true := by rw [toList_data, str_list, hs]; rfl
        have HS := hide hs
        clear hs hlt
        go_wp2_with fail
        go_roundw
        case rel => exact ⟨k + 1, by have := hlt'.out; omega, rfl, (by
          obtain ⟨t0, t1, tg, tm, tl⟩ := T1.out
          have e := HN.out
          rw [if_pos HS.out] at e
          exact ⟨t0, t1, tg, by rw [e]; exact tm, tl⟩)⟩
        case measure => exact measB rfl hlt'.out
      · have hE : (str s).toList.isEmpty = false := by
          cases s with
          | nil => exact absurd rfl hs
          | cons c r => rw [toList_data, str_list]; rfl
        have HS := hide hs
        have e5 := (HN.out).trans (if_neg hs)
        have HN5 := hide e5
        obtain ⟨t0, t1, tg, ⟨K, L, tm0⟩, tl⟩ := HT.out
        have hgw := tg.lt
        have HKo := hide (fun j e => tm0.k.low j e)
        have HLo := hide (fun j e => tm0.l.low j e)
        have tm := tm0.later HB1.out
        have HM := hide tm
        obtain ⟨ka, kc, hKe, -, -, -⟩ := tm.k.any
        obtain ⟨la, lc, hLe, -, -, -⟩ := tm.l.any
        have hlk : (hk ⟨x0, x1, x2, x3, x4⟩ k).length ≤ 5 := by
          unfold hk
          refine Nat.le_trans (List.length_filter_le ..) ?_
          rw [List.length_take]
          have := hlt'.out
          omega
        have Hlk := hide hlk
        obtain ⟨m, hm⟩ : ∃ m, m = ((hk ⟨x0, x1, x2, x3, x4⟩ k).map Prod.fst).length := ⟨_, rfl⟩
        obtain ⟨m2, hm2⟩ : ∃ m, m = ((hk ⟨x0, x1, x2, x3, x4⟩ k).map lfs).length := ⟨_, rfl⟩
        rw [← hm] at hKe
        rw [← hm2] at hLe
        have Hm := hide hm
        have Hm2 := hide hm2
        subst hKe
        subst hLe
        have n2 := tm.bx.c
        have n2f := tm.bx.f
        have n2a := fun o => (tm.bx.alloc o).c
        have f0 := (Box.new wr #[.string (str key), .pointer (some ⟨w.heap.size, i, none⟩)] 99).c
        clear hs hlt e5 t0 t1 tg tl tm tm0 hlk hm hm2 HT
        go_wp2_with (refine wpList_eapp ET rfl _ _ rfl (w.heap.size + 4) _ _ (some _) 1 1 [key] rfl rfl (HM.out.k.later (by repeat (first | with_reducible assumption | with_reducible exact Below.refl _ _ | with_reducible refine Below.setCell ?_ (by first | exact Nat.le_refl _ | (simp; done) | (simp; omega)) _ | with_reducible refine bal ?_ _ | with_reducible refine Below.alloc ?_ (by first | exact Nat.le_refl _ | (simp; done) | (simp; omega)) _ | with_reducible refine Below.drew ?_))) (ERow.newAt ET key (at_new _ _ _ (by simp))) (by have := Hlk.out; simp; omega) (by have := HM.out.lt; have := HM.out.bx.lt; have := T1.out.bg.lt; simp at this ⊢; omega) ?_; intro K' w4 o4 g4 t4; obtain ⟨ka2, kn2, kc2, hK2⟩ := o4.sl; subst hK2; have gK : (wr.alloc (.cells #[.string (str key), .pointer (some ⟨w.heap.size, i, none⟩)] 99)).grownBy w4 (Value.slice ka m kc).ownBlock := (grownBy_trans (grownBy_below _ (by repeat (first | with_reducible assumption | with_reducible exact Below.refl _ _ | with_reducible refine Below.setCell ?_ (by first | exact Nat.le_refl _ | (simp; done) | (simp; omega)) _ | with_reducible refine bal ?_ _ | with_reducible refine Below.alloc ?_ (by first | exact Nat.le_refl _ | (simp; done) | (simp; omega)) _ | with_reducible refine Below.drew ?_))) g4 (.inl rfl)); have KN4 := HM.out.bx.kept gK (fun e => by have := (HM.out.k.low _ e).1; omega); have n4 := KN4.c; have n4f := KN4.f)
        have hKK : (Value.slice ka2 kn2 kc2).ownBlock = (Value.slice ka m kc).ownBlock ∨ ∀ j, (Value.slice ka2 kn2 kc2).ownBlock = some j → (wr.alloc (.cells #[.string (str key), .pointer (some ⟨w.heap.size, i, none⟩)] 99)).heap.size ≤ j := by
          rcases t4 with h | h
          · exact .inl h
          · refine .inr fun j e => ?_
            rw [h] at e
            have e2 := Option.some.inj e
            simp at e2
            simp
            omega
        obtain ⟨M5, G5⟩ := HM.out.key o4 gK hKK
        have hF := (Box.new wr #[.string (str key), .pointer (some ⟨w.heap.size, i, none⟩)] 99)
        have hlo := T1.out.lo.size
        have hKo := HKo.out
        have T5 : Hid (Box (w4.setCell ⟨w.heap.size + 2, 3, none⟩ (Value.slice ka2 kn2 kc2)) w.heap.size (lkc ⟨x0, x1, x2, x3, x4⟩) ∧ Box (w4.setCell ⟨w.heap.size + 2, 3, none⟩ (Value.slice ka2 kn2 kc2)) (w.heap.size + 1) SV.zero.cells ∧ Box (w4.setCell ⟨w.heap.size + 2, 3, none⟩ (Value.slice ka2 kn2 kc2)) (w.heap.size + 3) (fcells w.heap.size) ∧ Below w.heap.size w (w4.setCell ⟨w.heap.size + 2, 3, none⟩ (Value.slice ka2 kn2 kc2))) := by
          obtain ⟨t0, t1, tg, -, tl⟩ := T1.out
          refine ⟨t0.gx G5 (by omega) (fun e => by have := (hKo _ e.symm).1; omega), t1.gx G5 (by omega) (fun e => by have := (hKo _ e.symm).1; omega), tg.gx G5 (by omega) (fun e => by have := (hKo _ e.symm).1; omega), ?_⟩
          exact ⟨G5.os.trans tl.os, G5.tape.trans tl.tape, G5.output.trans tl.output, Nat.le_trans tl.size G5.size, fun j hj => (G5.block j (by omega) (by omega) (fun e => by have := (hKo _ e.symm).1; omega)).trans (tl.block j hj)⟩
        have f5 := (hF.gx G5 (by omega) (fun e => by have := (hKo _ e.symm).2; omega)).c
        have c5 : (w4.setCell ⟨w.heap.size + 2, 3, none⟩ (Value.slice ka2 kn2 kc2)).cell? ⟨w.heap.size, i, none⟩ = some (.string (str s)) := by rw [T5.out.1.c]; exact HI.out
        have HM5 := hide M5
        have hsz := M5.bx.lt
        have hsz9 := T5.out.2.2.1.lt
        have HG5 := hide G5
        clear M5 G5 hF hlo hKo hKK gK o4 g4 t4 KN4 n4 n4f n2 n2f n2a f0 c0 d0 d1
        generalize hW5 : w4.setCell ⟨w.heap.size + 2, 3, none⟩ (Value.slice ka2 kn2 kc2) = W5 at *
        have n2 := HM5.out.bx.c
        have n2f := HM5.out.bx.f
        have n2a := fun o => (HM5.out.bx.alloc o).c
        have hv5 := hide (show lfs (key, s) = ⟨1, 0, str s, none, 0, 0, none, 0, 0⟩ from rfl)
        have hszw : Hid (w.heap.size + 4 ≤ W5.heap.size) := by show _ ≤ _; omega
        go_region_law
          (first
            | (refine step_eapp EV rfl _ _ rfl (w.heap.size + 4) _ _ (some _) 1 1 [⟨1, 0, str s, none, 0, 0, none, 0, 0⟩] rfl rfl (HM5.out.l.later (by repeat (first | with_reducible assumption | with_reducible exact Below.refl _ _ | with_reducible refine Below.setCell ?_ (by first | exact Nat.le_refl _ | (simp; done) | (simp; omega)) _ | with_reducible refine bal ?_ _ | with_reducible refine Below.alloc ?_ (by first | exact Nat.le_refl _ | (simp; done) | (simp; omega)) _ | with_reducible refine Below.drew ?_))) (ERow.newAt EV _ (by first | exact heap_alloc_new _ _ | simp)) (by have := Hlk.out; simp; omega) (by have := hszw.out; first | exact this | (simp; omega)) ?_; intro L' w6 o6 g6 t6; obtain ⟨la2, ln2, lc2, hL2⟩ := o6.sl; subst hL2; have gL : W5.grownBy w6 (Value.slice la m2 lc).ownBlock := (grownBy_trans (grownBy_below _ (by repeat (first | with_reducible assumption | with_reducible exact Below.refl _ _ | with_reducible refine Below.setCell ?_ (by first | exact Nat.le_refl _ | (simp; done) | (simp; omega)) _ | with_reducible refine bal ?_ _ | with_reducible refine Below.alloc ?_ (by first | exact Nat.le_refl _ | (simp; done) | (simp; omega)) _ | with_reducible refine Below.drew ?_))) g6 (.inl rfl)); have KN6 := HM5.out.bx.kept gL (fun e => by have := (HM5.out.l.low _ e).1; omega); have n6 := KN6.c; have n6f := KN6.f))
        all_goals
          have hLL : (Value.slice la2 ln2 lc2).ownBlock = (Value.slice la m2 lc).ownBlock ∨ ∀ j, (Value.slice la2 ln2 lc2).ownBlock = some j → W5.heap.size ≤ j := by
            rcases t6 with h | h
            · exact .inl h
            · refine .inr fun j e => ?_
              rw [h] at e
              have e2 := Option.some.inj e
              simp at e2
              omega
          have HEND := hide (tst_end HN5.out T5.out HM5.out o6 gL hLL)
          clear hLL o6 gL t6 g6 KN6 n6 n6f n2 n2f f5 c5
          go_wp2_with fail
          go_roundw
          case rel => exact ⟨k + 1, by have := hlt'.out; omega, rfl, HEND⟩
          case measure => exact measB rfl hlt'.out
    · obtain rfl : k = 5 := by omega
      obtain ⟨t0, t1, tg, ⟨K, L, tm⟩, tl⟩ := HT.out
      obtain ⟨ka, kc, hKe, -, -, -⟩ := tm.k.any
      obtain ⟨la, lc, hLe, -, -, -⟩ := tm.l.any
      generalize ((hk ⟨x0, x1, x2, x3, x4⟩ 5).map Prod.fst).length = m at *
      generalize ((hk ⟨x0, x1, x2, x3, x4⟩ 5).map lfs).length = m2 at *
      subst hKe
      subst hLe
      have n2 := tm.bx.c
      have n1 := t1.c
      have n1f := t1.f
      have HE := hide (tst_fin t1 tl tm)
      clear t0 t1 tg tm tl HT hlt
      go_wp2_with fail
      obtain ⟨xs, xv, xb⟩ := HE.out _ rfl
      have xd := xs.c
      have HV : Hid (∃ v : SV, Ending.returned (.agg #[.int .i64 5, .int .i64 0, .string ⟨#[]⟩, .slice ka m kc, .slice la m2 lc]) = .returned v.val ∧ VH _ (fun k => w.heap.size ≤ k) 6 (lockV ⟨x0, x1, x2, x3, x4⟩) v ∧ Below w.heap.size w _) := ⟨⟨5, 0, ⟨#[]⟩, ka, m, kc, la, m2, lc⟩, rfl, xv, xb⟩
      clear xs xv xb HE n1 n1f n2
      exact bodyPost_ret (v := .agg #[.int .i64 5, .int .i64 0, .string ⟨#[]⟩, .slice ka m kc, .slice la m2 lc]) (by simp [results, Tryz.results32, go_sem, *]) rfl HV.out

end Go.Proofs.YtnmmhihfnphjeaaGreatDoor.B
