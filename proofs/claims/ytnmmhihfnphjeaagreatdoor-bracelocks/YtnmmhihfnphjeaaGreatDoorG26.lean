/-
  Contract of formedLock: the walk.
  Contract of formed.
-/
import Derived.Test.YtnmmhihfnphjeaaGreatDoorG25

namespace Go.Proofs.YtnmmhihfnphjeaaGreatDoor.B
set_option linter.unusedSimpArgs false
set_option linter.unusedVariables false
open Go.RowKit Go.Vr Go.Sort Go.Tx Go.Lib
open Go.Br hiding Bs
attribute [local go_sem] setCellDrewN allocDrewN

set_option maxHeartbeats 4000000 in
set_option maxRecDepth 100000 in
theorem formedLock_not (v : SV) (w : World) (hv : v.k ≠ 5) :
    Calls Tryz.prog 65 #[v.val] w (FPost none w) := by
  obtain ⟨vk, vn, vs, ka, kn, kc, la, n, lc⟩ := v
  have d1 : (vk != 5) = true := by simpa using hv
  have HB := hide (show Below w.heap.size w ((w.alloc (.cells #[.int .i64 vk, .int .i64 vn, .string vs, .slice ka kn kc, .slice la n lc] 28)).alloc (.cells (lkc lk0) 49)) from (by repeat (first | with_reducible assumption | with_reducible exact Below.refl _ _ | with_reducible refine Below.setCell ?_ (by first | exact Nat.le_refl _ | (simp; done) | (simp; omega)) _ | with_reducible refine bal ?_ _ | with_reducible refine Below.alloc ?_ (by first | exact Nat.le_refl _ | (simp; done) | (simp; omega)) _ | with_reducible refine Below.drew ?_)))
  have hZ := Box.new (w.alloc (.cells #[.int .i64 vk, .int .i64 vn, .string vs, .slice ka kn kc, .slice la n lc] 28)) (lkc lk0) 49
  rw [show (w.alloc (.cells #[.int .i64 vk, .int .i64 vn, .string vs, .slice ka kn kc, .slice la n lc] 28)).heap.size = w.heap.size + 1 by simp] at hZ
  clear hv
  go_enter Tryz.func65, Tryz.ntmps65
  go_wp2_with fail
  have zc := hZ.c
  have HE := hide (show FPost none w (.returned (.tuple #[.agg #[.string ⟨#[]⟩, .string ⟨#[]⟩, .string ⟨#[]⟩, .string ⟨#[]⟩, .string ⟨#[]⟩], .bool false])) _ from ⟨HB.out, rfl⟩)
  exact bodyPost_ret (v := .tuple #[.agg #[.string ⟨#[]⟩, .string ⟨#[]⟩, .string ⟨#[]⟩, .string ⟨#[]⟩, .string ⟨#[]⟩], .bool false]) (by simp [results, Tryz.results65, go_sem, *]) rfl HE.out

set_option maxHeartbeats 8000000 in
set_option maxRecDepth 100000 in
theorem formedLock_map (l : List (Bs × Val 5)) (us : List SV) (v : SV) (Q : Nat → Prop) (w : World) (hv0 : v.k = 5) (hk : QRow ET w Q v.ka v.kn v.kc (l.map Prod.fst)) (hr : QRow EV w Q v.la v.ln v.lc us) (hv : All2 (VH w Q 5) (l.map Prod.snd) us) (hn : l.length ≤ 100000) :
    Calls Tryz.prog 65 #[v.val] w (FPost (lockM (Sum.inr (Sum.inr l))) w) := by
  have CA := hide (fun W (hW : Below w.heap.size w W) key => at_field l us v key (fun k => Q k ∧ k < w.heap.size) W (hk.keep (fun i _ h => hW.block i h) (fun _ h1 h2 => ⟨h1, h2⟩)) (hr.keep (fun i _ h => hW.block i h) (fun _ h1 h2 => ⟨h1, h2⟩)) (hv.mono fun x y h => h.keep (fun i _ h => hW.block i h) (fun _ h1 h2 => ⟨h1, h2⟩)) hn)
  obtain ⟨vk, vn, vs, ka, kn, kc, la, n, lc⟩ := v
  obtain rfl : vk = 5 := hv0
  have HB0 := hide (show Below w.heap.size w (((w.alloc (.cells #[.int .i64 5, .int .i64 vn, .string vs, .slice ka kn kc, .slice la n lc] 28)).alloc (.cells (lkc lk0) 49)).alloc (.cells (lkc lk0) 49)) from (by repeat (first | with_reducible assumption | with_reducible exact Below.refl _ _ | with_reducible refine Below.setCell ?_ (by first | exact Nat.le_refl _ | (simp; done) | (simp; omega)) _ | with_reducible refine bal ?_ _ | with_reducible refine Below.alloc ?_ (by first | exact Nat.le_refl _ | (simp; done) | (simp; omega)) _ | with_reducible refine Below.drew ?_)))
  have CF := hide (fieldsOf_any (w.heap.size + 2) (((w.alloc (.cells #[.int .i64 5, .int .i64 vn, .string vs, .slice ka kn kc, .slice la n lc] 28)).alloc (.cells (lkc lk0) 49)).alloc (.cells (lkc lk0) 49)))
  clear hk hr hv
  go_enter Tryz.func65, Tryz.ntmps65
  go_wp2_with fail
  refine CF.out.mono ?_
  rintro e w1 ⟨rfl, b1, bg⟩
  have hB0 := ((Box.new w #[.int .i64 5, .int .i64 vn, .string vs, .slice ka kn kc, .slice la n lc] 28).alloc (.cells (lkc lk0) 49)).alloc (.cells (lkc lk0) 49)
  have hB1 := (Box.new (w.alloc (.cells #[.int .i64 5, .int .i64 vn, .string vs, .slice ka kn kc, .slice la n lc] 28)) (lkc lk0) 49).alloc (.cells (lkc lk0) 49)
  have hB2 := Box.new ((w.alloc (.cells #[.int .i64 5, .int .i64 vn, .string vs, .slice ka kn kc, .slice la n lc] 28)).alloc (.cells (lkc lk0) 49)) (lkc lk0) 49
  have hs1 : (w.alloc (.cells #[.int .i64 5, .int .i64 vn, .string vs, .slice ka kn kc, .slice la n lc] 28)).heap.size = w.heap.size + 1 := by simp
  have hs2 : ((w.alloc (.cells #[.int .i64 5, .int .i64 vn, .string vs, .slice ka kn kc, .slice la n lc] 28)).alloc (.cells (lkc lk0) 49)).heap.size = w.heap.size + 2 := by simp
  have hs3 : (((w.alloc (.cells #[.int .i64 5, .int .i64 vn, .string vs, .slice ka kn kc, .slice la n lc] 28)).alloc (.cells (lkc lk0) 49)).alloc (.cells (lkc lk0) 49)).heap.size = w.heap.size + 3 := by simp
  rw [hs1] at hB1
  rw [hs2] at hB2
  rw [hs3] at bg
  have HT1 : Hid (FSt w w1 ⟨5, vn, vs, ka, kn, kc, la, n, lc⟩ l 0) := ⟨hB0.later b1, hB1.later b1, bg, ⟨lk0, hB2.later b1, fun j hj => by omega⟩, HB0.out.trans (b1.mono HB0.out.size)⟩
  clear hB0 hB1 hB2 hs1 hs2 hs3 b1 bg CF HB0
  go_wp2_with fail
  go_loopw [15] (fun i wr => ∃ k : Nat, k ≤ 5 ∧ i = .int .i64 k ∧ Hid (FSt w wr ⟨5, vn, vs, ka, kn, kc, la, n, lc⟩ l k)) (fun i _ => 5 - (RowKit.intOf i).toNat)
  case atStart => exact ⟨0, Nat.zero_le _, rfl, HT1⟩
  case round =>
    obtain ⟨k, hk5, rfl, HT⟩ := hrel
    clear HT1
    by_cases hlt : k < 5
    · obtain ⟨h1, h2, hi⟩ := fld_at (w.heap.size + 2) k hlt
      have d0 : wr.cell? ⟨w.heap.size + 3, k * 2, none⟩ = some (.string (str (fkey k))) := by rw [HT.out.bg.c, h1]
      have d1 : wr.cell? ⟨w.heap.size + 3, k * 2 + 1, none⟩ = some (.pointer (some ⟨w.heap.size + 2, fpos k, none⟩)) := by rw [HT.out.bg.c, h2]
      have B1 : Below wr.heap.size wr (wr.alloc (.cells #[.string (str (fkey k)), .pointer (some ⟨w.heap.size + 2, fpos k, none⟩)] 99)) := (by repeat (first | with_reducible assumption | with_reducible exact Below.refl _ _ | with_reducible refine Below.setCell ?_ (by first | exact Nat.le_refl _ | (simp; done) | (simp; omega)) _ | with_reducible refine bal ?_ _ | with_reducible refine Below.alloc ?_ (by first | exact Nat.le_refl _ | (simp; done) | (simp; omega)) _ | with_reducible refine Below.drew ?_))
      have n0 := (HT.out.b0.later B1).c
      have i1 : (0 : Int) ≤ (k : Int) := by omega
      have i2 : (k : Int) < 5 := by omega
      have HB1 := hide B1
      have hlt' := hide hlt
      have HI := hide hi
      clear h1 h2 B1 hi hlt hk5
      have HFN := hide (fun W s => fst_next (w := w) (W := W) (v := ⟨5, vn, vs, ka, kn, kc, la, n, lc⟩) (l := l) (k := k) (s := s))
      have HLN := hide (lock_none l k hlt'.out)
      have hf1 := (Box.new wr #[.string (str (fkey k)), .pointer (some ⟨w.heap.size + 2, fpos k, none⟩)] 99)
      have HF1 := hide hf1
      clear hf1
      generalize fkey k = key at *
      generalize fpos k = i at *
      have CA1 := hide (CA.out (wr.alloc (.cells #[.string (str key), .pointer (some ⟨w.heap.size + 2, i, none⟩)] 99)) (HT.out.lo.trans (HB1.out.mono HT.out.lo.size)) key)
      go_wp2_with fail
      refine CA1.out.mono ?_
      rintro e w2 ⟨b2, ⟨uk, un, us', uka, ukn, ukc, ula, uln, ulc⟩, bb, rfl, hcase⟩
      have B3 : Below w2.heap.size w2 (w2.alloc (.cells #[.int .i64 uk, .int .i64 un, .string us', .slice uka ukn ukc, .slice ula uln ulc] 28)) := (by repeat (first | with_reducible assumption | with_reducible exact Below.refl _ _ | with_reducible refine Below.setCell ?_ (by first | exact Nat.le_refl _ | (simp; done) | (simp; omega)) _ | with_reducible refine bal ?_ _ | with_reducible refine Below.alloc ?_ (by first | exact Nat.le_refl _ | (simp; done) | (simp; omega)) _ | with_reducible refine Below.drew ?_))
      have f3 := ((HF1.out.later b2).later B3).c
      have u3 := (Box.new w2 #[.int .i64 uk, .int .i64 un, .string us', .slice uka ukn ukc, .slice ula uln ulc] 28).c
      have H3 : Hid (FSt w (w2.alloc (.cells #[.int .i64 uk, .int .i64 un, .string us', .slice uka ukn ukc, .slice ula uln ulc] 28)) ⟨5, vn, vs, ka, kn, kc, la, n, lc⟩ l k) := by
        obtain ⟨t0, t1, tg, ⟨x, tx, ht⟩, tl⟩ := HT.out
        exact ⟨((t0.later HB1.out).later b2).later B3, ((t1.later HB1.out).later b2).later B3, ((tg.later HB1.out).later b2).later B3, ⟨x, ((tx.later HB1.out).later b2).later B3, ht⟩, ((tl.trans (HB1.out.mono tl.size)).trans (b2.mono (Nat.le_trans tl.size HB1.out.size))).trans (B3.mono (Nat.le_trans (Nat.le_trans tl.size HB1.out.size) b2.size))⟩
      clear b2 B3 CA1 n0 d0 d1
      rcases hcase with ⟨s, hfs, hus, hbk⟩ | ⟨hfn, rfl, hkn1⟩
      · obtain rfl : us' = str s := hus
        have c3 : ∃ z, (w2.alloc (.cells #[.int .i64 uk, .int .i64 un, .string (str s), .slice uka ukn ukc, .slice ula uln ulc] 28)).cell? ⟨w.heap.size + 2, i, none⟩ = some z := by
          obtain ⟨x, tx, _⟩ := H3.out.ex
          rw [tx.c]
          have hi9 : i < (lkc x).size := HI.out
          exact ⟨_, Array.getElem?_eq_getElem hi9⟩
        obtain ⟨z, c3⟩ := c3
        have g3 : (w2.alloc (.cells #[.int .i64 uk, .int .i64 un, .string (str s), .slice uka ukn ukc, .slice ula uln ulc] 28)).frozen? ⟨w.heap.size + 2, i, none⟩ = false := by
          obtain ⟨x, tx, _⟩ := H3.out.ex
          exact tx.f i
        have HEND := hide (HFN.out _ s H3.out hlt'.out hfs)
        clear hfs
        rcases hbk with rfl | ⟨rfl, hk1⟩
        · go_wp2_with fail
          go_roundw
          case rel => exact ⟨k + 1, by have := hlt'.out; omega, rfl, HEND⟩
          case measure => exact measB rfl hlt'.out
        · obtain rfl : uk = 1 := hk1
          go_wp2_with fail
          go_roundw
          case rel => exact ⟨k + 1, by have := hlt'.out; omega, rfl, HEND⟩
          case measure => exact measB rfl hlt'.out
      · have hneq : (uk != 1) = true := by simpa using hkn1
        have HL9 := hide (HLN.out hfn)
        have HB9 := hide H3.out.b1
        have HLo := hide H3.out.lo
        clear hfn hkn1 H3 HFN HLN HT CA
        have z1 := HB9.out.c
        have z1f := HB9.out.f
        go_wp2_with fail
        obtain ⟨xs, xb⟩ := box_set5 HB9.out (.string ⟨#[]⟩) (.string ⟨#[]⟩) (.string ⟨#[]⟩) (.string ⟨#[]⟩) (.string ⟨#[]⟩)
        have xd := xs.c
        have HV : Hid (FPost (lockM (Sum.inr (Sum.inr l))) w (.returned (.tuple #[.agg #[.string ⟨#[]⟩, .string ⟨#[]⟩, .string ⟨#[]⟩, .string ⟨#[]⟩, .string ⟨#[]⟩], .bool false])) _) := ⟨HLo.out.trans (xb _ (by omega)), by rw [HL9.out]; rfl⟩
        clear xs xb z1 z1f u3 f3
        exact bodyPost_ret (v := .tuple #[.agg #[.string ⟨#[]⟩, .string ⟨#[]⟩, .string ⟨#[]⟩, .string ⟨#[]⟩, .string ⟨#[]⟩], .bool false]) (by simp [results, Tryz.results65, go_sem, *]) rfl HV.out
    · obtain rfl : k = 5 := by omega
      obtain ⟨t0, t1, tg, ⟨x, tx, hx⟩, tl⟩ := HT.out
      have HL9 := hide (lock_some l x hx)
      have z1 := t1.c
      have z1f := t1.f
      have x1 := tx.c
      have HB9 := hide t1
      have HLo := hide tl
      obtain ⟨x0, y1, y2, y3, y4⟩ := x
      clear t0 t1 tg tx hx tl HT CA
      go_wp2_with fail
      obtain ⟨xs, xb⟩ := box_set5 HB9.out (.string (str x0)) (.string (str y1)) (.string (str y2)) (.string (str y3)) (.string (str y4))
      have xd := xs.c
      have HV : Hid (FPost (lockM (Sum.inr (Sum.inr l))) w (.returned (.tuple #[.agg #[.string (str x0), .string (str y1), .string (str y2), .string (str y3), .string (str y4)], .bool true])) _) := ⟨HLo.out.trans (xb _ (by omega)), by rw [HL9.out]⟩
      clear xs xb z1 z1f
      exact bodyPost_ret (v := .tuple #[.agg #[.string (str x0), .string (str y1), .string (str y2), .string (str y3), .string (str y4)], .bool true]) (by simp [results, Tryz.results65, go_sem, *]) rfl HV.out

theorem vh_none {w : World} {Q : Nat → Prop} {d : Nat} {x : Val (d + 1)} {u : SV} (h : VH w Q (d + 1) x u) : (∃ l, x = Sum.inr (Sum.inr l) ∧ u.k = 5) ∨ ((∀ l, x ≠ Sum.inr (Sum.inr l)) ∧ u.k ≠ 5) := by
  match x, h with
  | Sum.inl (.inl s), h =>
    obtain rfl : u = leafSV (.inl s) := h
    exact .inr ⟨fun s e => (by cases e), by show ¬ (1 : Int) = 5; decide⟩
  | Sum.inl (.inr (.inl n)), h =>
    obtain rfl : u = leafSV (.inr (.inl n)) := h
    exact .inr ⟨fun s e => (by cases e), by show ¬ (2 : Int) = 5; decide⟩
  | Sum.inl (.inr (.inr true)), h =>
    obtain rfl : u = leafSV (.inr (.inr true)) := h
    exact .inr ⟨fun s e => (by cases e), by show ¬ (3 : Int) = 5; decide⟩
  | Sum.inl (.inr (.inr false)), h =>
    obtain rfl : u = leafSV (.inr (.inr false)) := h
    exact .inr ⟨fun s e => (by cases e), by show ¬ (3 : Int) = 5; decide⟩
  | Sum.inr (Sum.inl l), h => exact .inr ⟨fun s e => (by cases e), by rw [h.1.1]; decide⟩
  | Sum.inr (Sum.inr l), h => exact .inl ⟨l, rfl, h.1.1⟩

/-- Numbers of members that may be. -/
def cnt : (d : Nat) → Val d → Prop
  | 0, _ => True
  | _ + 1, Sum.inl _ => True
  | d + 1, Sum.inr (Sum.inl l) => l.length ≤ 100000 ∧ ∀ x ∈ l, cnt d x
  | d + 1, Sum.inr (Sum.inr l) => l.length ≤ 100000 ∧ ∀ kx ∈ l, cnt d kx.2

theorem formedLock_any (x : Val 6) (v : SV) (Q : Nat → Prop) (w : World) (hv : VH w Q 6 x v) (hc : cnt 6 x) :
    Calls Tryz.prog 65 #[v.val] w (FPost (lockM x) w) := by
  rcases vh_none hv with ⟨l, rfl, h5⟩ | ⟨h1, h2⟩
  · obtain ⟨h1, h0, us, h2, h3⟩ := hv
    exact formedLock_map l us v Q w h5 h0 h2 h3 hc.1
  · have : lockM x = none := by
      unfold lockM
      match x, h1 with
      | Sum.inl _, _ => rfl
      | Sum.inr (Sum.inl _), _ => rfl
      | Sum.inr (Sum.inr l), h1 => exact absurd rfl (h1 l)
    rw [this]
    exact formedLock_not v w h2

end Go.Proofs.YtnmmhihfnphjeaaGreatDoor.B

namespace Go.Proofs.YtnmmhihfnphjeaaGreatDoor.B
set_option linter.unusedSimpArgs false
set_option linter.unusedVariables false
open Go.RowKit Go.Vr Go.Sort Go.Tx Go.Lib
open Go.Br hiding Bs
attribute [local go_sem] setCellDrewN allocDrewN

theorem lockMs_snoc {x : Val 6} {k : Lk} : ∀ {l : List (Val 6)} {ks : List Lk}, lockMs l = some ks → lockM x = some k → lockMs (l ++ [x]) = some (ks ++ [k])
  | [], ks, h, hx => by
    obtain rfl : [] = ks := Option.some.inj h
    show (match lockM x with | none => none | some k => (lockMs []).map fun ks => k :: ks) = _
    rw [hx]; rfl
  | y :: l, ks, h, hx => by
    unfold lockMs at h
    show (match lockM y with | none => none | some k => (lockMs (l ++ [x])).map fun ks => k :: ks) = _
    cases hy : lockM y with
    | none => rw [hy] at h; cases h
    | some a =>
      rw [hy] at h
      simp only at h ⊢
      cases hl : lockMs l with
      | none => rw [hl] at h; cases h
      | some bs =>
        rw [hl] at h
        obtain rfl := Option.some.inj h
        rw [lockMs_snoc hl hx]
        rfl
theorem lockMs_none {x : Val 6} (hx : lockM x = none) : ∀ {l : List (Val 6)}, x ∈ l → lockMs l = none
  | [], h => absurd h (by simp)
  | y :: l, h => by
    unfold lockMs
    rcases List.mem_cons.1 h with rfl | h
    · rw [hx]
    · cases lockM y with
      | none => rfl
      | some a => simp only; rw [lockMs_none hx h]; rfl
theorem lockMs_len : ∀ {l : List (Val 6)} {ks : List Lk}, lockMs l = some ks → ks.length = l.length
  | [], ks, h => by obtain rfl : [] = ks := Option.some.inj h; rfl
  | y :: l, ks, h => by
    unfold lockMs at h
    cases hy : lockM y with
    | none => rw [hy] at h; cases h
    | some a =>
      rw [hy] at h
      simp only at h
      cases hl : lockMs l with
      | none => rw [hl] at h; cases h
      | some bs =>
        rw [hl] at h
        obtain rfl := Option.some.inj h
        simp [lockMs_len hl]

theorem assoc_mem {α : Type} {l : List (Bs × α)} {k : Bs} {y : α} (h : assoc l k = some y) : ∃ kx ∈ l, kx.2 = y := by
  unfold assoc at h
  cases hf : l.find? (fun p => p.1 == k) with
  | none => rw [hf] at h; cases h
  | some p => rw [hf] at h; exact ⟨p, List.mem_of_find?_eq_some hf, Option.some.inj h⟩

/-- How formed ends. -/
def GPost (r : Option (List Lk)) (w : World) (e : Ending) (w' : World) : Prop := Below w.heap.size w w' ∧ match r with
  | some ks => ∃ v', e = .returned (.tuple #[v', .bool true]) ∧ EOwn ELk w' w.heap.size v' ks
  | none => e = .returned (.tuple #[.slice none 0 0, .bool false])

theorem vh_list {w : World} {Q : Nat → Prop} {d : Nat} {x : Val (d + 1)} {u : SV} (h : VH w Q (d + 1) x u) : (∃ l, x = Sum.inr (Sum.inl l) ∧ u.k = 4) ∨ ((∀ l, x ≠ Sum.inr (Sum.inl l)) ∧ u.k ≠ 4) := by
  match x, h with
  | Sum.inl (.inl s), h =>
    obtain rfl : u = leafSV (.inl s) := h
    exact .inr ⟨fun s e => (by cases e), by show ¬ (1 : Int) = 4; decide⟩
  | Sum.inl (.inr (.inl n)), h =>
    obtain rfl : u = leafSV (.inr (.inl n)) := h
    exact .inr ⟨fun s e => (by cases e), by show ¬ (2 : Int) = 4; decide⟩
  | Sum.inl (.inr (.inr true)), h =>
    obtain rfl : u = leafSV (.inr (.inr true)) := h
    exact .inr ⟨fun s e => (by cases e), by show ¬ (3 : Int) = 4; decide⟩
  | Sum.inl (.inr (.inr false)), h =>
    obtain rfl : u = leafSV (.inr (.inr false)) := h
    exact .inr ⟨fun s e => (by cases e), by show ¬ (3 : Int) = 4; decide⟩
  | Sum.inr (Sum.inl l), h => exact .inl ⟨l, rfl, h.1.1⟩
  | Sum.inr (Sum.inr l), h => exact .inr ⟨fun s e => (by cases e), by rw [h.1.1]; decide⟩

set_option maxHeartbeats 4000000 in
set_option maxRecDepth 100000 in
theorem formed_not (v : SV) (w : World) (hv : v.k ≠ 5) :
    Calls Tryz.prog 49 #[v.val] w (GPost none w) := by
  obtain ⟨vk, vn, vs, ka, kn, kc, la, n, lc⟩ := v
  have d1 : (vk != 5) = true := by simpa using hv
  clear hv
  go_enter Tryz.func49, Tryz.ntmps49
  go_wp2_with fail
  exact bodyPost_ret (v := .tuple #[.slice none 0 0, .bool false]) (by simp [results, Tryz.results49, go_sem, *]) rfl ⟨(by repeat (first | with_reducible assumption | with_reducible exact Below.refl _ _ | with_reducible refine Below.setCell ?_ (by first | exact Nat.le_refl _ | (simp; done) | (simp; omega)) _ | with_reducible refine bal ?_ _ | with_reducible refine Below.alloc ?_ (by first | exact Nat.le_refl _ | (simp; done) | (simp; omega)) _ | with_reducible refine Below.drew ?_)), rfl⟩

theorem formM_none {l : List (Bs × Val 7)} (h : assoc l kLocks = none) : formM (Sum.inr (Sum.inr l)) = some [] := by
  unfold formM
  simp only [h]
theorem formM_list {l : List (Bs × Val 7)} {ls : List (Val 6)} (h : assoc l kLocks = some (Sum.inr (Sum.inl ls))) : formM (Sum.inr (Sum.inr l)) = lockMs ls := by
  unfold formM
  simp only [h]
theorem formM_other {l : List (Bs × Val 7)} {y : Val 7} (h : assoc l kLocks = some y) (hy : ∀ ls, y ≠ Sum.inr (Sum.inl ls)) : formM (Sum.inr (Sum.inr l)) = none := by
  unfold formM
  simp only [h]

set_option maxHeartbeats 8000000 in
set_option maxRecDepth 100000 in
theorem formed_map (l : List (Bs × Val 7)) (us : List SV) (v : SV) (Q : Nat → Prop) (w : World) (hv0 : v.k = 5) (hk : QRow ET w Q v.ka v.kn v.kc (l.map Prod.fst)) (hr : QRow EV w Q v.la v.ln v.lc us) (hv : All2 (VH w Q 7) (l.map Prod.snd) us) (hn : l.length ≤ 100000) (hc : ∀ kx ∈ l, cnt 7 kx.2) :
    Calls Tryz.prog 49 #[v.val] w (GPost (formM (Sum.inr (Sum.inr l))) w) := by
  have hB0 : Below w.heap.size w (w.alloc (.cells v.cells 28)) := (by repeat (first | with_reducible assumption | with_reducible exact Below.refl _ _ | with_reducible refine Below.setCell ?_ (by first | exact Nat.le_refl _ | (simp; done) | (simp; omega)) _ | with_reducible refine bal ?_ _ | with_reducible refine Below.alloc ?_ (by first | exact Nat.le_refl _ | (simp; done) | (simp; omega)) _ | with_reducible refine Below.drew ?_))
  have CA := hide (at_any 7 l us v kLocks (fun k => Q k ∧ k < w.heap.size) (w.alloc (.cells v.cells 28)) (hk.keep (fun i _ h => hB0.block i h) (fun _ h1 h2 => ⟨h1, h2⟩)) (hr.keep (fun i _ h => hB0.block i h) (fun _ h1 h2 => ⟨h1, h2⟩)) (hv.mono fun x y h => h.keep (fun i _ h => hB0.block i h) (fun _ h1 h2 => ⟨h1, h2⟩)) hn)
  have HB0 := hide hB0
  obtain ⟨vk, vn, vs, ka, kn, kc, la, n, lc⟩ := v
  obtain rfl : vk = 5 := hv0
  clear hk hr hv hB0
  go_enter Tryz.func49, Tryz.ntmps49
  go_wp2_with fail
  refine CA.out.mono ?_
  rintro e w1 ⟨b1, hm⟩
  have HB1 := hide (HB0.out.trans (b1.mono HB0.out.size))
  clear CA
  cases ha : assoc l kLocks with
  | none =>
    rw [ha] at hm
    obtain rfl := hm
    have HQ := hide (formM_none ha)
    clear ha b1
    go_wp2_with fail
    exact bodyPost_ret (v := .tuple #[.slice none 0 0, .bool true]) (by simp [results, Tryz.results49, go_sem, *]) rfl ⟨HB1.out.alloc HB1.out.size _, by rw [HQ.out]; exact ⟨_, rfl, EOwn.nil _ _⟩⟩
  | some y =>
    rw [ha] at hm
    obtain ⟨⟨uk, un, us', uka, ukn, ukc, ula, uln, ulc⟩, rfl, hu⟩ := hm
    have hX := (Box.new w1 #[.int .i64 uk, .int .i64 un, .string us', .slice uka ukn ukc, .slice ula uln ulc] 28).c
    have HX := hide hX
    rcases vh_list hu with ⟨ls, rfl, h4⟩ | ⟨h1, h2⟩
    · obtain rfl : uk = 4 := h4
      have HQ := hide (formM_list ha)
      obtain ⟨kx, hkx, hky⟩ := assoc_mem ha
      have hcy := hc kx hkx
      rw [hky] at hcy
      obtain ⟨hcl, hcs⟩ := hcy
      obtain ⟨-, us2, hr2, hv2⟩ := hu
      have hB2 : Below w.heap.size (w.alloc (.cells #[.int .i64 5, .int .i64 vn, .string vs, .slice ka kn kc, .slice la n lc] 28)) w1 := b1.mono HB0.out.size
      have HR := hide (hr2.keep (w' := w1) (Q' := fun k => k < w.heap.size) (fun i h _ => hB2.block i h.2) (fun _ h _ => h.2))
      have HV := hide (hv2.mono fun x y h => h.keep (w' := w1) (Q' := fun k => k < w.heap.size) (fun i h _ => hB2.block i h.2) (fun _ h _ => h.2))
      have hl2 := hide hr2.row.n
      have hvl := hide hv2.len
      have HCL := hide hcl
      have HCS := hide hcs
      have HW1 : Hid (Below w.heap.size w1 (w1.alloc (.cells #[.int .i64 4, .int .i64 un, .string us', .slice uka ukn ukc, .slice ula uln ulc] 28)) ∧ Below w.heap.size w (w1.alloc (.cells #[.int .i64 4, .int .i64 un, .string us', .slice uka ukn ukc, .slice ula uln ulc] 28))) := by
        have hb : Below w1.heap.size w1 (w1.alloc (.cells #[.int .i64 4, .int .i64 un, .string us', .slice uka ukn ukc, .slice ula uln ulc] 28)) := (by repeat (first | with_reducible assumption | with_reducible exact Below.refl _ _ | with_reducible refine Below.setCell ?_ (by first | exact Nat.le_refl _ | (simp; done) | (simp; omega)) _ | with_reducible refine bal ?_ _ | with_reducible refine Below.alloc ?_ (by first | exact Nat.le_refl _ | (simp; done) | (simp; omega)) _ | with_reducible refine Below.drew ?_))
        exact ⟨hb.mono HB1.out.size, HB1.out.trans (hb.mono HB1.out.size)⟩
      clear ha hkx hky hcl hcs hr2 hv2 hB2 b1
      go_wp2_with fail
      clear hX
      generalize w1.alloc (.cells #[.int .i64 4, .int .i64 un, .string us', .slice uka ukn ukc, .slice ula uln ulc] 28) = W2 at *
      go_loopw [6, 28] (fun o i wr => ∃ (k : Nat) (ks : List Lk), k ≤ uln ∧ i = .int .i64 k ∧ Hid (EOwn ELk wr w.heap.size o ks) ∧ Hid (lockMs (ls.take k) = some ks) ∧ Hid (Below w.heap.size W2 wr)) (fun _ i _ => uln - (RowKit.intOf i).toNat)
      case atStart => exact ⟨0, [], Nat.zero_le _, rfl, EOwn.nil _ _, rfl, Below.refl _ _⟩
      case round =>
        obtain ⟨k, ks, hkn, rfl, HO, HK, HB⟩ := hrel
        by_cases hlt : k < uln
        · have hkl : k < ls.length := by have := hl2.out; have := hvl.out; omega
          obtain ⟨g, off, rfl⟩ := HR.out.row.spot (by omega)
          obtain ⟨⟨xk, xn, xs, xka, xkn, xkc, xla, xln, xlc⟩, hxu, hxv⟩ := HV.out.at_ k ls[k] (List.getElem?_eq_getElem hkl)
          have hbr : Below w.heap.size w1 wr := HW1.out.1.trans HB.out
          obtain ⟨d0, d1, d2, d3, d4⟩ := EV_at (HR.out.keep (w' := wr) (Q' := fun _ => True) (fun i h _ => hbr.block i h) (fun _ _ _ => trivial)).row k _ hxu
          have B1 : Below wr.heap.size wr (wr.alloc (.cells #[.int .i64 xk, .int .i64 xn, .string xs, .slice xka xkn xkc, .slice xla xln xlc] 28)) := (by repeat (first | with_reducible assumption | with_reducible exact Below.refl _ _ | with_reducible refine Below.setCell ?_ (by first | exact Nat.le_refl _ | (simp; done) | (simp; omega)) _ | with_reducible refine bal ?_ _ | with_reducible refine Below.alloc ?_ (by first | exact Nat.le_refl _ | (simp; done) | (simp; omega)) _ | with_reducible refine Below.drew ?_))
          have hwr : w.heap.size ≤ wr.heap.size := by have := HW1.out.2.size; have := HB.out.size; omega
          have hvx := hxv.keep (w' := wr.alloc (.cells #[.int .i64 xk, .int .i64 xn, .string xs, .slice xka xkn xkc, .slice xla xln xlc] 28)) (Q' := fun _ => True) (fun i h _ => (hbr.trans (B1.mono hwr)).block i h) (fun _ _ _ => trivial)
          have CF := hide (formedLock_any ls[k] _ _ _ hvx (HCS.out _ (List.getElem_mem hkl)))
          have HLM := hide (List.getElem_mem hkl)
          have HTK := hide (List.take_succ_eq_append_getElem hkl)
          have hks : ks.length = k := by have := lockMs_len HK.out; rw [List.length_take] at this; omega
          have Hks := hide hks
          generalize ls[k] = x at *
          have x0 := (Box.new wr #[.int .i64 xk, .int .i64 xn, .string xs, .slice xka xkn xkc, .slice xla xln xlc] 28).c
          have i1 : (0 : Int) ≤ (k : Int) := by omega
          have i2 : (k : Int) < (uln : Int) := by omega
          have HB1' := hide B1
          have hlt' := hide hlt
          have HWR := hide hwr
          have HKW : Hid (wrap64 ((k : Int) + 1) = ((k + 1 : Nat) : Int)) := by show _ = _; have := HCL.out; have := hvl.out; have := hl2.out; unfold wrap64; omega
          clear hxu hxv hbr B1 hvx hks hlt hkn hwr hkl
          go_wp2_with fail
          refine CF.out.mono ?_
          rintro e w3 ⟨b3, hm⟩
          have HB3 := hide ((HB.out.trans (HB1'.out.mono HWR.out)).trans (b3.mono (Nat.le_trans HWR.out HB1'.out.size)))
          have HO3 := hide ((HO.out.later HB1'.out).later b3)
          clear b3 CF HO HB x0 d0 d1 d2 d3 d4
          cases hlm : lockM x with
          | none =>
            rw [hlm] at hm
            obtain rfl := hm
            have HN := hide (lockMs_none hlm HLM.out)
            clear hlm
            go_wp2_with fail
            exact bodyPost_ret (v := .tuple #[.slice none 0 0, .bool false]) (by simp [results, Tryz.results49, go_sem, *]) rfl ⟨(HW1.out.2.trans HB3.out).alloc (HW1.out.2.trans HB3.out).size _, by rw [HQ.out, HN.out]⟩
          | some kk =>
            rw [hlm] at hm
            obtain rfl := hm
            have HS := hide (lockMs_snoc HK.out hlm)
            have hsz3 : Hid (w.heap.size ≤ w3.heap.size) := (HW1.out.2.trans HB3.out).size
            obtain ⟨oa, oc, hOe, -, -, -⟩ := HO3.out.any
            have hks := Hks.out
            rw [hks] at hOe
            subst hOe
            have l0 := (Box.new w3 (lkc kk) 49).c
            obtain ⟨k0, k1, k2, k3, k4⟩ := kk
            clear hlm hks
            go_wp2_with (refine wpList_eapp ELk rfl _ _ rfl w.heap.size _ ks (some _) 1 1 [⟨k0, k1, k2, k3, k4⟩] rfl rfl (HO3.out.later (by repeat (first | with_reducible assumption | with_reducible exact Below.refl _ _ | with_reducible refine Below.setCell ?_ (by first | exact Nat.le_refl _ | (simp; done) | (simp; omega)) _ | with_reducible refine bal ?_ _ | with_reducible refine Below.alloc ?_ (by first | exact Nat.le_refl _ | (simp; done) | (simp; omega)) _ | with_reducible refine Below.drew ?_))) (ERow.newAt ELk _ (at_new _ _ _ (by simp))) (by have := Hks.out; have := HCL.out; have := hlt'.out; have := hl2.out; have := hvl.out; omega) (by have := hsz3.out; simp; omega) ?_; intro o' w4 o4 g4 t4)
            have hB4 : Below w.heap.size W2 w4 := (HB3.out.trans (show Below w.heap.size w3 ((w3.alloc (.cells (lkc ⟨k0, k1, k2, k3, k4⟩) 49)).alloc (.cells (lkc ⟨k0, k1, k2, k3, k4⟩) 49)) from ((Below.refl _ _).alloc hsz3.out _).alloc (by have := hsz3.out; simp; omega) _)).grown g4 (by have := hsz3.out; simp; omega) (fun j e => (HO3.out.low j e).1)
            have HB4 := hide hB4
            have HO4 := hide o4
            clear o4 g4 t4 hB4
            go_wp2_with fail
            go_roundw
            case rel => exact ⟨k + 1, ks ++ [⟨k0, k1, k2, k3, k4⟩], by have := hlt'.out; omega, (by first | exact congrArg (Value.int .i64) HKW.out | rfl), HO4, (show _ = _ by rw [HTK.out]; exact HS.out), HB4⟩
            case measure => exact measB (by first | exact HKW.out | rfl) hlt'.out
        · obtain rfl : k = uln := by omega
          have HN : Hid (lockMs ls = some ks) := by
            show _ = _
            have := HK.out
            rw [List.take_of_length_le (by have := hl2.out; have := hvl.out; omega)] at this
            exact this
          go_wp2_with fail
          exact bodyPost_ret (v := .tuple #[u6, .bool true]) (by simp [results, Tryz.results49, go_sem, *]) rfl ⟨HW1.out.2.trans HB.out, by rw [HQ.out, HN.out]; exact ⟨_, rfl, HO.out⟩⟩
    · have hneq : (uk != 4) = true := by simpa using h2
      have HQ := hide (formM_other ha h1)
      clear ha h1 h2 hu b1
      go_wp2_with fail
      exact bodyPost_ret (v := .tuple #[.slice none 0 0, .bool false]) (by simp [results, Tryz.results49, go_sem, *]) rfl ⟨HB1.out.alloc HB1.out.size _, by rw [HQ.out]⟩

theorem formed_any (x : Val 8) (v : SV) (Q : Nat → Prop) (w : World) (hv : VH w Q 8 x v) (hc : cnt 8 x) :
    Calls Tryz.prog 49 #[v.val] w (GPost (formM x) w) := by
  rcases vh_none hv with ⟨l, rfl, h5⟩ | ⟨h1, h2⟩
  · obtain ⟨h1, h0, us, h2, h3⟩ := hv
    exact formed_map l us v Q w h5 h0 h2 h3 hc.1 hc.2
  · have : formM x = none := by
      unfold formM
      match x, h1 with
      | Sum.inl _, _ => rfl
      | Sum.inr (Sum.inl _), _ => rfl
      | Sum.inr (Sum.inr l), h1 => exact absurd rfl (h1 l)
    rw [this]
    exact formed_not v w h2

end Go.Proofs.YtnmmhihfnphjeaaGreatDoor.B
