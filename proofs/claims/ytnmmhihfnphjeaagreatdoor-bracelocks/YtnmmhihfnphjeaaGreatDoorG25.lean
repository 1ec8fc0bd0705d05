/-
  Contract of Write.
  Contract of record.at.
  Contract of formedLock.
-/
import Derived.Test.YtnmmhihfnphjeaaGreatDoorG24

namespace Go.Proofs.YtnmmhihfnphjeaaGreatDoor.B
set_option linter.unusedSimpArgs false
set_option linter.unusedVariables false
open Go.RowKit Go.Vr Go.Sort Go.Tx Go.Lib
open Go.Br hiding Bs
attribute [local go_sem] setCellDrewN allocDrewN

/-- A list in the making: its variable in block M. -/
structure LV (w : World) (M d : Nat) (l : List (Val d)) (L : Value) (us : List SV) : Prop where
  bx : Box w M #[.int .i64 4, .int .i64 0, .string ⟨#[]⟩, .slice none 0 0, L]
  own : EOwn EV w (M + 1) L us
  all : All2 (VH w (fun j => M < j ∧ some j ≠ L.ownBlock) d) l us
theorem LV.later {w w' : World} {M d : Nat} {l : List (Val d)} {L : Value} {us : List SV} (h : LV w M d l L us) (hb : Below w.heap.size w w') : LV w' M d l L us := ⟨h.bx.later hb, h.own.later hb, h.all.mono fun _ _ k => VH.below k hb⟩
theorem LV.add {w w4 : World} {M d : Nat} {l : List (Val d)} {L L' : Value} {us : List SV} {x : Val d} {v : SV} (h : LV w M d l L us) (hv : VH w (fun j => M < j ∧ some j ≠ L.ownBlock) d x v) (o4 : EOwn EV w4 (M + 1) L' (us ++ [v])) (g4 : w.grownBy w4 L.ownBlock) (t4 : L'.ownBlock = L.ownBlock ∨ ∀ j, L'.ownBlock = some j → w.heap.size ≤ j) :
    LV (w4.setCell ⟨M, 4, none⟩ L') M d (l ++ [x]) L' (us ++ [v]) ∧ Gx M L.ownBlock w (w4.setCell ⟨M, 4, none⟩ L') := by
  have hL := fun j e => (h.own.low j e)
  have hlt := h.bx.lt
  have hB4 := h.bx.kept g4 (fun e => by have := (hL M e).1; omega)
  have G4 : Gx M L.ownBlock w w4 := ⟨g4.os, g4.tape, g4.output, g4.size, fun k hk _ h2 => g4.block k hk h2⟩
  have G : Gx M L.ownBlock w (w4.setCell ⟨M, 4, none⟩ L') := G4.grown (grownBy_setCell _ _ _ _) (fun j e => .inl (Option.some.inj e).symm)
  have hk : ∀ k, (M < k ∧ some k ≠ L.ownBlock) → k < w.heap.size → (w4.setCell ⟨M, 4, none⟩ L').heap[k]? = w.heap[k]? := fun k hq hk => G.block k hk (by omega) hq.2
  have hq : ∀ k, (M < k ∧ some k ≠ L.ownBlock) → k < w.heap.size → (M < k ∧ some k ≠ L'.ownBlock) := fun k hq hk => ⟨hq.1, fun e => by
    rcases t4 with t | t
    · exact hq.2 (by rw [← t]; exact e)
    · have := t k e.symm; omega⟩
  exact ⟨⟨hB4.set 4 _ (by simp), o4.setOther (fun j e => by have := (o4.low j e).1; omega), (h.all.mono fun _ _ k => VH.keep hk hq k).snoc (VH.keep hk hq hv)⟩, G⟩

/-- Write's state. -/
structure WSt (w wr : World) (ls : List Lk) (k : Nat) : Prop where
  ex : ∃ L us, LV wr w.heap.size 6 ((ls.take k).map lockV) L us
  lo : Below w.heap.size w wr

theorem wst_end {w W5 w6 : World} {ls : List Lk} {k : Nat} {L L' : Value} {us : List SV} {v : SV} {x : Lk} (hx : ls[k]? = some x) (h5 : LV W5 w.heap.size 6 ((ls.take k).map lockV) L us) (hv : VH W5 (fun j => w.heap.size < j ∧ some j ≠ L.ownBlock) 6 (lockV x) v) (hlo : Below w.heap.size w W5)
    (o6 : EOwn EV w6 (w.heap.size + 1) L' (us ++ [v])) (g6 : W5.grownBy w6 L.ownBlock) (t6 : L'.ownBlock = L.ownBlock ∨ ∀ j, L'.ownBlock = some j → W5.heap.size ≤ j) :
    WSt w (w6.setCell ⟨w.heap.size, 4, none⟩ L') ls (k + 1) := by
  obtain ⟨M7, G⟩ := h5.add hv o6 g6 t6
  have hLo := fun j e => h5.own.low j e
  have hl : k < ls.length := (List.getElem?_eq_some_iff.1 hx).1
  refine ⟨⟨L', us ++ [v], ?_⟩, ?_⟩
  · rw [List.take_succ_eq_append_getElem hl, (List.getElem?_eq_some_iff.1 hx).2, List.map_append]
    exact M7
  · exact ⟨G.os.trans hlo.os, G.tape.trans hlo.tape, G.output.trans hlo.output, Nat.le_trans hlo.size G.size, fun j hj => (G.block j (by have := hlo.size; omega) (by omega) (fun e => by have := (hLo _ e.symm).1; omega)).trans (hlo.block j hj)⟩

set_option maxHeartbeats 8000000 in
set_option maxRecDepth 100000 in
theorem write_any (a : Option Addr) (n c : Nat) (ls : List Lk) (w : World) (hr : ERow ELk w a n ls) (hn : n ≤ 90000) (he : Env w) (ho : ∀ x ∈ ls, plainL x) (hl : (writeM ls).length ≤ 1000000) :
    Calls Tryz.prog 15 #[.slice a n c] w fun e w' => e = .returned (.string (str (writeM ls))) ∧ Below w.heap.size w w' := by
  have HR := hide hr
  have hln := hide hr.n
  have HE := hide he
  have HO := hide ho
  have HL := hide hl
  have Hn := hide hn
  have HB0 := hide (show Below w.heap.size w (w.alloc (.cells #[.int .i64 4, .int .i64 0, .string ⟨#[]⟩, .slice none 0 0, .slice none 0 0] 28)) from (by repeat (first | with_reducible assumption | with_reducible exact Below.refl _ _ | with_reducible refine Below.setCell ?_ (by first | exact Nat.le_refl _ | (simp; done) | (simp; omega)) _ | with_reducible refine bal ?_ _ | with_reducible refine Below.alloc ?_ (by first | exact Nat.le_refl _ | (simp; done) | (simp; omega)) _ | with_reducible refine Below.drew ?_)))
  have HW0 : Hid (WSt w (w.alloc (.cells #[.int .i64 4, .int .i64 0, .string ⟨#[]⟩, .slice none 0 0, .slice none 0 0] 28)) ls 0) := ⟨⟨_, [], Box.new _ _ _, EOwn.nil _ _, trivial⟩, HB0.out⟩
  clear hr he ho hl hn
  go_enter Tryz.func15, Tryz.ntmps15
  go_wp2_with fail
  generalize w.alloc (.cells #[.int .i64 4, .int .i64 0, .string ⟨#[]⟩, .slice none 0 0, .slice none 0 0] 28) = W0 at *
  go_loopw [9] (fun i wr => ∃ k : Nat, k ≤ n ∧ i = .int .i64 k ∧ Hid (WSt w wr ls k)) (fun i _ => n - (RowKit.intOf i).toNat)
  case atStart => exact ⟨0, Nat.zero_le _, rfl, HW0⟩
  case round =>
    obtain ⟨k, hkn, rfl, HT⟩ := hrel
    clear HW0 HB0
    by_cases hlt : k < n
    · obtain ⟨g, off, rfl⟩ := HR.out.spot (by omega)
      have hkl : k < ls.length := by have := hln.out; omega
      have hx : ls[k]? = some ls[k] := List.getElem?_eq_getElem hkl
      obtain ⟨d0, d1, d2, d3, d4⟩ := ELk_at (HR.out.later HT.out.lo) k ls[k] hx
      have HX := hide hx
      generalize ls[k] = x at *
      have B1 : Below wr.heap.size wr (wr.alloc (.cells (lkc x) 49)) := (by repeat (first | with_reducible assumption | with_reducible exact Below.refl _ _ | with_reducible refine Below.setCell ?_ (by first | exact Nat.le_refl _ | (simp; done) | (simp; omega)) _ | with_reducible refine bal ?_ _ | with_reducible refine Below.alloc ?_ (by first | exact Nat.le_refl _ | (simp; done) | (simp; omega)) _ | with_reducible refine Below.drew ?_))
      have hsz1 : (wr.alloc (.cells (lkc x) 49)).heap.size = wr.heap.size + 1 := by simp
      obtain ⟨⟨L, us, hL⟩, hlo⟩ := HT.out
      have HLV := hide (hL.later B1)
      have HLo := hide (hlo.trans (B1.mono hlo.size))
      have HLk := hide (fun j e => hL.own.low j e)
      have hus : us.length = k := by have := hL.all.len; rw [List.length_map, List.length_take] at this; omega
      obtain ⟨la, lc, hLe, -, -, -⟩ := hL.own.any
      rw [hus] at hLe
      subst hLe
      have Hus := hide hus
      have i1 : (0 : Int) ≤ (k : Int) := by omega
      have i2 : (k : Int) < (n : Int) := by omega
      have HKW : Hid (wrap64 ((k : Int) + 1) = ((k + 1 : Nat) : Int)) := by show _ = _; have := Hn.out; unfold wrap64; omega
      have hlt' := hide hlt
      have HB1 := hide B1
      have hfx := (Box.new wr (lkc x) 49).c
      have hM := hL.bx.lt
      clear hx hL hlo hus B1 hlt hkl hkn
      go_wp2_with fail
      generalize wr.alloc (.cells (lkc x) 49) = W1 at *
      have n2 := HLV.out.bx.c
      have n2f := HLV.out.bx.f
      have CT := hide (fun W => told_any x W)
      go_region_law
        (first
          | (go_simp; go_at_call 32; refine (CT.out _).mono ?_; rintro e u2 ⟨⟨vk, vn, vs, ka, kn, kc, va, ln, vc⟩, rfl, hv, b2⟩; have B2 : Below W1.heap.size W1 u2 := Below.trans (by first | exact Below.refl _ _ | exact (Below.refl _ _).drew | exact belDrewN _ _) (b2.mono (by first | exact Nat.le_refl _ | simp)); have LU := HLV.out.later B2; have nu := LU.bx.c; have nuf := LU.bx.f; have nua := fun o => (LU.bx.alloc o).c)
          | (refine step_eapp EV rfl _ _ rfl (w.heap.size + 1) _ us (some _) 1 1 [⟨vk, vn, vs, ka, kn, kc, va, ln, vc⟩] rfl rfl (LU.own.later (by repeat (first | with_reducible assumption | with_reducible exact Below.refl _ _ | with_reducible refine Below.setCell ?_ (by first | exact Nat.le_refl _ | (simp; done) | (simp; omega)) _ | with_reducible refine bal ?_ _ | with_reducible refine Below.alloc ?_ (by first | exact Nat.le_refl _ | (simp; done) | (simp; omega)) _ | with_reducible refine Below.drew ?_))) (ERow.newAt EV _ (by first | exact heap_alloc_new _ _ | simp)) (by have := Hus.out; have := hlt'.out; have := Hn.out; simp; omega) (by have := B2.size; first | omega | (simp; omega)) ?_; intro L' w6 o6 g6 t6; obtain ⟨la2, ln2, lc2, hL2⟩ := o6.sl; subst hL2; have gL : u2.grownBy w6 (Value.slice la k lc).ownBlock := (grownBy_trans (grownBy_below _ (by repeat (first | with_reducible assumption | with_reducible exact Below.refl _ _ | with_reducible refine Below.setCell ?_ (by first | exact Nat.le_refl _ | (simp; done) | (simp; omega)) _ | with_reducible refine bal ?_ _ | with_reducible refine Below.alloc ?_ (by first | exact Nat.le_refl _ | (simp; done) | (simp; omega)) _ | with_reducible refine Below.drew ?_))) g6 (.inl rfl)); have KN6 := LU.bx.kept gL (fun e => by have := (LU.own.low _ e).1; omega); have n6 := KN6.c; have n6f := KN6.f))
      all_goals
        have hLL : (Value.slice la2 ln2 lc2).ownBlock = (Value.slice la k lc).ownBlock ∨ ∀ j, (Value.slice la2 ln2 lc2).ownBlock = some j → u2.heap.size ≤ j := by
          rcases t6 with h | h
          · exact .inl h
          · refine .inr fun j e => ?_
            rw [h] at e
            have e2 := Option.some.inj e
            simp at e2
            omega
        have hbs := B2.size
        have hv9 : VH u2 (fun j => w.heap.size < j ∧ some j ≠ (Value.slice la k lc).ownBlock) 6 (lockV x) ⟨vk, vn, vs, ka, kn, kc, va, ln, vc⟩ := hv.mono fun j hj => ⟨by simp at hj; omega, fun e => by have := (HLk.out j e.symm).2; simp at hj; omega⟩
        have HEND := hide (wst_end HX.out LU hv9 (HLo.out.trans (B2.mono HLo.out.size)) o6 gL hLL)
        clear hLL o6 gL t6 g6 KN6 n6 n6f n2 n2f nu nuf nua hv hv9 b2 B2 LU hbs
        go_wp2_with fail
        go_roundw
        case rel => exact ⟨k + 1, by have := hlt'.out; omega, (by first | exact congrArg (Value.int .i64) HKW.out | rfl), HEND⟩
        case measure => exact measB (by first | exact HKW.out | rfl) hlt'.out
    · obtain rfl : k = n := by omega
      have hk9 : ls.take k = ls := by rw [← hln.out]; exact List.take_length
      obtain ⟨⟨L, us, hL⟩, hlo⟩ := HT.out
      rw [hk9] at hL
      obtain ⟨la, lc, hLe, hlc, hlm, hrow⟩ := hL.own.any
      have hus : us.length = k := by have := hL.all.len; rw [List.length_map] at this; have := hln.out; omega
      rw [hus] at hLe hlc hrow
      subst hLe
      have n2 := hL.bx.c
      have n2a := fun o => (hL.bx.alloc o).c
      have i2 : ¬ ((k : Int) < (k : Int)) := by omega
      have HLV := hide hL
      have HB := hide hlo
      have hV : Hid (∀ W, Below wr.heap.size wr W → ∀ A B, W.heap[A]? = some (.cells #[.string ⟨#[108, 111, 99, 107, 115]⟩] 9 (0, 0)) → W.heap[B]? = some (.cells #[.int .i64 4, .int .i64 0, .string ⟨#[]⟩, .slice none 0 0, .slice la k lc] 28 (0, 0)) → VH W (fun _ => True) 8 (locksV ls) ⟨5, 0, ⟨#[]⟩, some ⟨A, 0, none⟩, 1, 1, some ⟨B, 0, none⟩, 1, 1⟩) := by
        intro W hW A B hA hB
        refine ⟨⟨rfl, rfl, rfl⟩, ⟨ERow.newAt ET kLocks hA, Nat.le_refl _, (by show 1 ≤ maxLen; unfold maxLen; omega), fun _ _ _ => trivial⟩, [⟨4, 0, ⟨#[]⟩, none, 0, 0, la, k, lc⟩], ⟨ERow.newAt EV ⟨4, 0, ⟨#[]⟩, none, 0, 0, la, k, lc⟩ hB, Nat.le_refl _, (by show 1 ≤ maxLen; unfold maxLen; omega), fun _ _ _ => trivial⟩, ⟨⟨rfl, rfl, rfl, rfl, rfl, rfl⟩, us, ⟨hrow.later hW, hlc, hlm, fun _ _ _ => trivial⟩, ?_⟩, trivial⟩
        exact hL.all.mono fun _ _ k => (VH.below k hW).mono fun _ _ => trivial
      have CX := hide (fun W hW A B hA hB => text_any 8 (locksV ls) ⟨5, 0, ⟨#[]⟩, some ⟨A, 0, none⟩, 1, 1, some ⟨B, 0, none⟩, 1, 1⟩ (fun _ => True) W ((HE.out.later hlo).later hW) (hV.out W hW A B hA hB) (okV_locks ls HO.out) (by have := HL.out; unfold writeM at this; rw [List.length_append] at this; omega))
      have hz : ¬ 9223372036854775807 < (str (textV 8 (locksV ls))).size + 1 := by rw [str_size]; have := HL.out; unfold writeM at this; rw [List.length_append] at this; omega
      have HS := hide (show str (textV 8 (locksV ls)) ++ ⟨#[10]⟩ = str (writeM ls) from str_app _ [10])
      clear hL hlo hus hrow hlc hlm HT hk9 hV
      go_wp2_with fail
      refine (CX.out _ (by repeat (first | with_reducible assumption | with_reducible exact Below.refl _ _ | with_reducible refine Below.setCell ?_ (by first | exact Nat.le_refl _ | (simp; done) | (simp; omega)) _ | with_reducible refine bal ?_ _ | with_reducible refine Below.alloc ?_ (by first | exact Nat.le_refl _ | (simp; done) | (simp; omega)) _ | with_reducible refine Below.drew ?_)) _ _ (at_old _ _ _ (by simp) (heap_alloc_new _ _)) (at_new _ _ _ (by simp))).mono ?_
      rintro e w9 ⟨rfl, b9⟩
      have HB9 := hide (HB.out.trans (RowKit.Below.trans (show Below wr.heap.size wr ((wr.alloc (.cells #[.string ⟨#[108, 111, 99, 107, 115]⟩] 9)).alloc (.cells #[.int .i64 4, .int .i64 0, .string ⟨#[]⟩, .slice none 0 0, .slice la k lc] 28)) from (by repeat (first | with_reducible assumption | with_reducible exact Below.refl _ _ | with_reducible refine Below.setCell ?_ (by first | exact Nat.le_refl _ | (simp; done) | (simp; omega)) _ | with_reducible refine bal ?_ _ | with_reducible refine Below.alloc ?_ (by first | exact Nat.le_refl _ | (simp; done) | (simp; omega)) _ | with_reducible refine Below.drew ?_))) (b9.mono (by simp; omega)) |>.mono HB.out.size))
      clear b9 CX n2 n2a
      go_wp2_with fail
      go_ret
      exact ⟨ret_str HS.out, HB9.out⟩

end Go.Proofs.YtnmmhihfnphjeaaGreatDoor.B

namespace Go.Proofs.YtnmmhihfnphjeaaGreatDoor.B
set_option linter.unusedSimpArgs false
set_option linter.unusedVariables false
open Go.RowKit Go.Vr Go.Sort Go.Tx Go.Lib
open Go.Br hiding Bs
attribute [local go_sem] setCellDrewN allocDrewN

/-- What a key tells. -/
def AtPost (d : Nat) (Q : Nat → Prop) (r : Option (Val d)) (w : World) (e : Ending) (w' : World) : Prop := Below w.heap.size w w' ∧ match r with
  | none => e = .returned (.tuple #[SV.zero.val, .bool false])
  | some x => ∃ u : SV, e = .returned (.tuple #[u.val, .bool true]) ∧ VH w Q d x u

theorem assoc_none {α : Type} {l : List (Bs × α)} {k : Bs} (h : (l.map Prod.fst).findIdx? (fun y => y == k) = none) : assoc l k = none := by
  unfold assoc
  rw [List.findIdx?_map] at h
  rw [List.findIdx?_eq_none_iff] at h
  rw [List.find?_eq_none.2 (fun x hx => by have := h x hx; simpa using this)]
  rfl
theorem assoc_some {α : Type} {l : List (Bs × α)} {k : Bs} {j : Nat} (h : (l.map Prod.fst).findIdx? (fun y => y == k) = some j) : ∃ p, l[j]? = some p ∧ assoc l k = some p.2 := by
  unfold assoc
  rw [List.findIdx?_map] at h
  obtain ⟨hl, h1, h2⟩ := List.findIdx?_eq_some_iff_getElem.1 h
  refine ⟨l[j], List.getElem?_eq_getElem hl, ?_⟩
  rw [List.find?_eq_some_iff_getElem.2 ⟨by simpa using h1, j, hl, rfl, fun i hi => by have := h2 i hi; simpa using this⟩]
  rfl

set_option maxHeartbeats 4000000 in
set_option maxRecDepth 100000 in
theorem at_any (d : Nat) (l : List (Bs × Val d)) (us : List SV) (v : SV) (key : Bs) (Q : Nat → Prop) (w : World) (hk : QRow ET w Q v.ka v.kn v.kc (l.map Prod.fst)) (hr : QRow EV w Q v.la v.ln v.lc us) (hv : All2 (VH w Q d) (l.map Prod.snd) us) (hn : l.length ≤ 100000) :
    Calls Tryz.prog 64 #[v.val, .string (str key)] w (AtPost d Q (assoc l key) w) := by
  obtain ⟨vk, vn, vs, ka, kn, kc, la, n, lc⟩ := v
  have hkn : (l.map Prod.fst).length = kn := hk.row.n
  have hln : us.length = n := hr.row.n
  have hvl : (l.map Prod.snd).length = us.length := hv.len
  rw [List.length_map] at hkn hvl
  have HB := hide (show Below w.heap.size w ((w.alloc (.cells #[.int .i64 vk, .int .i64 vn, .string vs, .slice ka kn kc, .slice la n lc] 110)).alloc (.cells SV.zero.cells 28)) from (by repeat (first | with_reducible assumption | with_reducible exact Below.refl _ _ | with_reducible refine Below.setCell ?_ (by first | exact Nat.le_refl _ | (simp; done) | (simp; omega)) _ | with_reducible refine bal ?_ _ | with_reducible refine Below.alloc ?_ (by first | exact Nat.le_refl _ | (simp; done) | (simp; omega)) _ | with_reducible refine Below.drew ?_)))
  have CI := hide (index_any ka kn kc (l.map Prod.fst) (str key) ((w.alloc (.cells #[.int .i64 vk, .int .i64 vn, .string vs, .slice ka kn kc, .slice la n lc] 110)).alloc (.cells SV.zero.cells 28)) (hk.row.later HB.out) (by omega))
  rw [str_list] at CI
  have hX := (Box.new w #[.int .i64 vk, .int .i64 vn, .string vs, .slice ka kn kc, .slice la n lc] 110).alloc (.cells SV.zero.cells 28)
  have hZ := Box.new (w.alloc (.cells #[.int .i64 vk, .int .i64 vn, .string vs, .slice ka kn kc, .slice la n lc] 110)) SV.zero.cells 28
  have hs1 : (w.alloc (.cells #[.int .i64 vk, .int .i64 vn, .string vs, .slice ka kn kc, .slice la n lc] 110)).heap.size = w.heap.size + 1 := by simp
  rw [hs1] at hZ
  have HR := hide (hr.row.later HB.out)
  have HV := hide hv
  have HX := hide hX
  have HZ := hide hZ
  have xc := hX.c
  clear hk hr hv hX hZ hs1
  cases hi : (l.map Prod.fst).findIdx? (fun y => y == key) with
  | none =>
    rw [hi] at CI
    have HA := hide (assoc_none hi)
    clear hi
    go_enter Tryz.func64, Tryz.ntmps64
    go_wp2_with fail
    refine CI.out.mono ?_
    rintro e w2 ⟨rfl, rfl⟩
    have zc := HZ.out.c
    have zf := HZ.out.f
    go_wp2_with fail
    have HE := hide (show AtPost d Q (assoc l key) w (.returned (.tuple #[SV.zero.val, .bool false])) _ from ⟨HB.out, by rw [HA.out]⟩)
    exact bodyPost_ret (v := .tuple #[.agg #[.int .i64 0, .int .i64 0, .string ⟨#[]⟩, .slice none 0 0, .slice none 0 0], .bool false]) (by simp [results, Tryz.results64, go_sem, *]) rfl HE.out
  | some j =>
    rw [hi] at CI
    obtain ⟨p, hp, ha⟩ := assoc_some hi
    have hjl : j < l.length := (List.getElem?_eq_some_iff.1 hp).1
    obtain ⟨u, hu, hxu⟩ := HV.out.at_ j p.2 (by rw [List.getElem?_map, hp]; rfl)
    have hn0 : 0 < n := by omega
    obtain ⟨g, off, rfl⟩ := HR.out.spot hn0
    obtain ⟨d0, d1, d2, d3, d4⟩ := EV_at HR.out j u hu
    have HA := hide ha
    have HXU := hide hxu
    have i1 : (0 : Int) ≤ idxV (some j) := by unfold idxV; simp
    have i0 : ¬ idxV (some j) < (0 : Int) := by unfold idxV; simp
    have i2 : idxV (some j) < (n : Int) := by show (j : Int) < (n : Int); omega
    have i3 : (idxV (some j)).toNat = j := by unfold idxV; simp
    obtain ⟨uk, un, us', uka, ukn, ukc, ula, uln, ulc⟩ := u
    clear hi hp ha hxu hu
    go_enter Tryz.func64, Tryz.ntmps64
    go_wp2_with fail
    refine CI.out.mono ?_
    rintro e w2 ⟨rfl, rfl⟩
    have zc := HZ.out.c
    have zf := HZ.out.f
    go_wp2_with fail
    clear zc zf xc
    have hZ2 := Box.new (w.alloc (.cells #[.int .i64 vk, .int .i64 vn, .string vs, .slice ka kn kc, .slice (some ⟨g, off, none⟩) n lc] 110)) #[.int .i64 uk, .int .i64 un, .string us', .slice uka ukn ukc, .slice ula uln ulc] 28
    rw [show (w.alloc (.cells #[.int .i64 vk, .int .i64 vn, .string vs, .slice ka kn kc, .slice (some ⟨g, off, none⟩) n lc] 110)).heap.size = w.heap.size + 1 by simp] at hZ2
    have zc := hZ2.c
    have HE := hide (show AtPost d Q (assoc l key) w (.returned (.tuple #[.agg #[.int .i64 uk, .int .i64 un, .string us', .slice uka ukn ukc, .slice ula uln ulc], .bool true])) ((w.alloc (.cells #[.int .i64 vk, .int .i64 vn, .string vs, .slice ka kn kc, .slice (some ⟨g, off, none⟩) n lc] 110)).alloc (.cells #[.int .i64 uk, .int .i64 un, .string us', .slice uka ukn ukc, .slice ula uln ulc] 28)) from ⟨(by repeat (first | with_reducible assumption | with_reducible exact Below.refl _ _ | with_reducible refine Below.setCell ?_ (by first | exact Nat.le_refl _ | (simp; done) | (simp; omega)) _ | with_reducible refine bal ?_ _ | with_reducible refine Below.alloc ?_ (by first | exact Nat.le_refl _ | (simp; done) | (simp; omega)) _ | with_reducible refine Below.drew ?_)), by rw [HA.out]; exact ⟨⟨uk, un, us', uka, ukn, ukc, ula, uln, ulc⟩, rfl, HXU.out⟩⟩)
    exact bodyPost_ret (v := .tuple #[.agg #[.int .i64 uk, .int .i64 un, .string us', .slice uka ukn ukc, .slice ula uln ulc], .bool true]) (by simp [results, Tryz.results64, go_sem, *]) rfl HE.out

end Go.Proofs.YtnmmhihfnphjeaaGreatDoor.B

namespace Go.Proofs.YtnmmhihfnphjeaaGreatDoor.B
set_option linter.unusedSimpArgs false
set_option linter.unusedVariables false
open Go.RowKit Go.Vr Go.Sort Go.Tx Go.Lib
open Go.Br hiding Bs
attribute [local go_sem] setCellDrewN allocDrewN

theorem vh_kind {w : World} {Q : Nat → Prop} {d : Nat} {x : Val (d + 1)} {u : SV} (h : VH w Q (d + 1) x u) : (∃ s, x = Sum.inl (Sum.inl s) ∧ u.k = 1 ∧ u.s = str s) ∨ ((∀ s, x ≠ Sum.inl (Sum.inl s)) ∧ u.k ≠ 1) := by
  match x, h with
  | Sum.inl (.inl s), h =>
    obtain rfl : u = leafSV (.inl s) := h
    exact .inl ⟨s, rfl, rfl, rfl⟩
  | Sum.inl (.inr (.inl n)), h =>
    obtain rfl : u = leafSV (.inr (.inl n)) := h
    exact .inr ⟨fun s e => (by cases e), by show ¬ (2 : Int) = 1; decide⟩
  | Sum.inl (.inr (.inr true)), h =>
    obtain rfl : u = leafSV (.inr (.inr true)) := h
    exact .inr ⟨fun s e => (by cases e), by show ¬ (3 : Int) = 1; decide⟩
  | Sum.inl (.inr (.inr false)), h =>
    obtain rfl : u = leafSV (.inr (.inr false)) := h
    exact .inr ⟨fun s e => (by cases e), by show ¬ (3 : Int) = 1; decide⟩
  | Sum.inr (Sum.inl l), h => exact .inr ⟨fun s e => (by cases e), by rw [h.1.1]; decide⟩
  | Sum.inr (Sum.inr l), h => exact .inr ⟨fun s e => (by cases e), by rw [h.1.1]; decide⟩

/-- A field, as a lock's map has it. -/
theorem at_field (l : List (Bs × Val 5)) (us : List SV) (v : SV) (key : Bs) (Q : Nat → Prop) (w : World) (hk : QRow ET w Q v.ka v.kn v.kc (l.map Prod.fst)) (hr : QRow EV w Q v.la v.ln v.lc us) (hv : All2 (VH w Q 5) (l.map Prod.snd) us) (hn : l.length ≤ 100000) :
    Calls Tryz.prog 64 #[v.val, .string (str key)] w fun e w' => Below w.heap.size w w' ∧ ∃ (u : SV) (b : Bool), e = .returned (.tuple #[u.val, .bool b]) ∧ ((∃ s, fieldM l key = some s ∧ u.s = str s ∧ (b = false ∨ (b = true ∧ u.k = 1))) ∨ (fieldM l key = none ∧ b = true ∧ u.k ≠ 1)) := by
  refine (at_any 5 l us v key Q w hk hr hv hn).mono ?_
  rintro e w' ⟨hb, h⟩
  refine ⟨hb, ?_⟩
  cases ha : assoc l key with
  | none =>
    rw [ha] at h
    exact ⟨SV.zero, false, h, .inl ⟨[], by unfold fieldM; rw [ha], rfl, .inl rfl⟩⟩
  | some x =>
    rw [ha] at h
    obtain ⟨u, he, hu⟩ := h
    refine ⟨u, true, he, ?_⟩
    rcases vh_kind hu with ⟨s, rfl, h1, h2⟩ | ⟨h1, h2⟩
    · exact .inl ⟨s, by unfold fieldM; rw [ha], h2, .inr ⟨rfl, h1⟩⟩
    · refine .inr ⟨?_, rfl, h2⟩
      unfold fieldM
      rw [ha]
      match x, h1 with
      | Sum.inl (.inl s), h1 => exact absurd rfl (h1 s)
      | Sum.inl (.inr _), _ => rfl
      | Sum.inr _, _ => rfl

/-- The k-th field of a lock turned. -/
def setF (x : Lk) (k : Nat) (s : Bs) : Lk := match k with
  | 0 => { x with root := s }
  | 1 => { x with rev := s }
  | 2 => { x with ver := s }
  | 3 => { x with within := s }
  | _ => { x with source := s }
/-- Where the k-th field stands in a lock; its key. -/
def fpos (k : Nat) : Nat := [0, 2, 1, 3, 4].getD k 0
def fkey (k : Nat) : Bs := [kPath, kRev, kVer, kWithin, kOrigin].getD k []
theorem fld_set (x : Lk) (k : Nat) (s : Bs) (h : k < 5) : lkc (setF x k s) = (lkc x).setIfInBounds (fpos k) (.string (str s)) ∧ (fieldsL (setF x k s))[k]? = some (fkey k, s) ∧ ∀ j, j < k → (fieldsL (setF x k s))[j]? = (fieldsL x)[j]? := by
  match k, h with
  | 0, _ => exact ⟨rfl, rfl, fun j hj => by omega⟩
  | 1, _ => exact ⟨rfl, rfl, fun j hj => by obtain rfl : j = 0 := by omega
                                            rfl⟩
  | 2, _ => exact ⟨rfl, rfl, fun j hj => by obtain rfl | rfl : j = 0 ∨ j = 1 := by omega
                                            all_goals rfl⟩
  | 3, _ => exact ⟨rfl, rfl, fun j hj => by obtain rfl | rfl | rfl : j = 0 ∨ j = 1 ∨ j = 2 := by omega
                                            all_goals rfl⟩
  | 4, _ => exact ⟨rfl, rfl, fun j hj => by obtain rfl | rfl | rfl | rfl : j = 0 ∨ j = 1 ∨ j = 2 ∨ j = 3 := by omega
                                            all_goals rfl⟩
theorem fld_at (N k : Nat) (h : k < 5) : (fcells N)[k * 2]? = some (.string (str (fkey k))) ∧ (fcells N)[k * 2 + 1]? = some (.pointer (some ⟨N, fpos k, none⟩)) ∧ fpos k < 5 := by
  match k, h with
  | 0, _ => exact ⟨rfl, rfl, by decide⟩
  | 1, _ => exact ⟨rfl, rfl, by decide⟩
  | 2, _ => exact ⟨rfl, rfl, by decide⟩
  | 3, _ => exact ⟨rfl, rfl, by decide⟩
  | 4, _ => exact ⟨rfl, rfl, by decide⟩

abbrev lk0 : Lk := ⟨[], [], [], [], []⟩
theorem lock_none (l : List (Bs × Val 5)) (k : Nat) (h : k < 5) (hf : fieldM l (fkey k) = none) : lockM (Sum.inr (Sum.inr l)) = none := by
  unfold lockM
  simp only
  match k, h with
  | 0, _ => rw [show fieldM l kPath = none from hf]
  | 1, _ => rw [show fieldM l kRev = none from hf]; cases fieldM l kPath <;> rfl
  | 2, _ => rw [show fieldM l kVer = none from hf]; cases fieldM l kPath <;> cases fieldM l kRev <;> rfl
  | 3, _ => rw [show fieldM l kWithin = none from hf]; cases fieldM l kPath <;> cases fieldM l kRev <;> cases fieldM l kVer <;> rfl
  | 4, _ => rw [show fieldM l kOrigin = none from hf]; cases fieldM l kPath <;> cases fieldM l kRev <;> cases fieldM l kVer <;> cases fieldM l kWithin <;> rfl
theorem lock_some (l : List (Bs × Val 5)) (x : Lk) (h : ∀ j, j < 5 → ∀ p, (fieldsL x)[j]? = some p → fieldM l p.1 = some p.2) : lockM (Sum.inr (Sum.inr l)) = some x := by
  unfold lockM
  simp only
  rw [show fieldM l kPath = some x.root from h 0 (by omega) _ rfl, show fieldM l kRev = some x.rev from h 1 (by omega) _ rfl, show fieldM l kVer = some x.ver from h 2 (by omega) _ rfl, show fieldM l kWithin = some x.within from h 3 (by omega) _ rfl, show fieldM l kOrigin = some x.source from h 4 (by omega) _ rfl]

/-- How formedLock ends. -/
def FPost (r : Option Lk) (w : World) (e : Ending) (w' : World) : Prop := Below w.heap.size w w' ∧ match r with
  | some k => e = .returned (.tuple #[.agg (lkc k), .bool true])
  | none => e = .returned (.tuple #[.agg (lkc lk0), .bool false])

/-- formedLock's state. -/
structure FSt (w wr : World) (v : SV) (l : List (Bs × Val 5)) (k : Nat) : Prop where
  b0 : Box wr w.heap.size v.cells
  b1 : Box wr (w.heap.size + 1) (lkc lk0)
  bg : Box wr (w.heap.size + 3) (fcells (w.heap.size + 2))
  ex : ∃ x : Lk, Box wr (w.heap.size + 2) (lkc x) ∧ ∀ j, j < k → ∀ p, (fieldsL x)[j]? = some p → fieldM l p.1 = some p.2
  lo : Below w.heap.size w wr

theorem fst_next {w W : World} {v : SV} {l : List (Bs × Val 5)} {k : Nat} {s : Bs} (h : FSt w W v l k) (hk : k < 5) (hf : fieldM l (fkey k) = some s) : FSt w (W.setCell ⟨w.heap.size + 2, fpos k, none⟩ (.string (str s))) v l (k + 1) := by
  obtain ⟨b0, b1, bg, ⟨x, bx, hx⟩, lo⟩ := h
  have hb := fun i (hi : i ≠ w.heap.size + 2) => Below.heap_setCell W ⟨w.heap.size + 2, fpos k, none⟩ (.string (str s)) i hi
  obtain ⟨s1, s2, s3⟩ := fld_set x k s hk
  refine ⟨b0.of_block (hb _ (by omega)), b1.of_block (hb _ (by omega)), bg.of_block (hb _ (by omega)), ⟨setF x k s, ?_, fun j hj p hp => ?_⟩, ?_⟩
  · rw [s1]
    exact bx.set _ _ (by have := (fld_at 0 k hk).2.2; simpa using this)
  · by_cases e : j = k
    · subst e
      rw [s2] at hp
      obtain rfl := Option.some.inj hp
      exact hf
    · rw [s3 j (by omega)] at hp
      exact hx j (by omega) p hp
  · exact lo.setCell (by show _ ≤ w.heap.size + 2; omega) _

end Go.Proofs.YtnmmhihfnphjeaaGreatDoor.B
