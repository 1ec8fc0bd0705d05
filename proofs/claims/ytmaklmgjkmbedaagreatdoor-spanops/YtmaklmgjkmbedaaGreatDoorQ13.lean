/-
  Contract of the third law's points: versions that may be.
-/
import Derived.Test.YtmaklmgjkmbedaaGreatDoorQ6
import Derived.Laws.OwnMore
namespace Go.Proofs.YtmaklmgjkmbedaaGreatDoor
set_option linter.unusedSimpArgs false
set_option linter.unusedVariables false
open Go.RowKit Go.Vr Go.Sort Go.Tx Go.Lib
attribute [local go_sem] setCellDrewN allocDrewN

def EV : El V where
  enc := fun v => [.int .i64 v.a, .int .i64 v.b, .int .i64 v.c, .string v.p]
  k := 4
  T := 34
  TS := 30
  z := ver 0 0 0 ⟨#[]⟩
  bytes := 40
  hk := fun _ => rfl
  one := by
    intro x u hu
    simp only [List.mem_cons, List.not_mem_nil, or_false] at hu
    rcases hu with rfl | rfl | rfl | rfl <;> rfl
  ht := Tryz.underlying30
  hi := ⟨Tryz.t34, by kernel_rfl, by kernel_rfl, by kernel_rfl, by kernel_rfl⟩
  hzs := by kernel_rfl
  hk0 := by decide
  hby := by decide
theorem ERow.lit {α : Type} (E : El α) (w : World) (xs : List α) (T : TypeId) : ERow E (w.alloc (.cells (E.encs xs).toArray T)) (some ⟨w.heap.size, 0, .none⟩) xs.length xs := by
  refine ⟨rfl, (fun e => nomatch e), fun y e j v hj => ?_⟩
  obtain rfl : ⟨w.heap.size, 0, .none⟩ = y := by simpa using e
  rw [addr_add, Nat.zero_add, (Box.new w (E.encs xs).toArray T).c]
  simpa using hj
theorem EV_at {w : World} {b off len : Nat} {l : List V} (h : ERow EV w (some ⟨b, off, none⟩) len l) (j : Nat) (s : V) (hj : l[j]? = some s) :
    w.cell? ⟨b, off + j * 4, none⟩ = some (.int .i64 s.a) ∧ w.cell? ⟨b, off + j * 4 + 1, none⟩ = some (.int .i64 s.b) ∧ w.cell? ⟨b, off + j * 4 + 2, none⟩ = some (.int .i64 s.c) ∧ w.cell? ⟨b, off + j * 4 + 3, none⟩ = some (.string s.p) :=
  ⟨h.at_ j s hj 0 _ rfl, h.at_ j s hj 1 _ rfl, h.at_ j s hj 2 _ rfl, h.at_ j s hj 3 _ rfl⟩
theorem okv_abc {v : V} (h : v.ok = true) (p : ByteArray) (hp : preOk p.data.toList = true) : (V.mk v.a v.b v.c p).ok = true := by
  obtain ⟨h1, h2, h3⟩ := Sp.parts_ok h
  exact made_ok h1 h2 h3 hp
theorem okv_app {ps qs : List V} (h : ∀ p ∈ ps, p.ok = true) (k : ∀ p ∈ qs, p.ok = true) : ∀ p ∈ ps ++ qs, p.ok = true := fun p hp => (List.mem_append.1 hp).elim (h p) (k p)

set_option maxHeartbeats 16000000 in
set_option maxRecDepth 100000 in
theorem points_sl (W : World) (ad : Option Addr) (n cp : Nat) (l : List Sp.S) (x y : Int) (hr : ERow ES W ad n l) (ho : Sp.okL l) (hn : n ≤ 1000) (hx : -9223372036854775808 ≤ x ∧ x ≤ 9223372036854775807) (hy : -9223372036854775808 ≤ y ∧ y ≤ 9223372036854775807) :
    Calls Tryz.prog 23 #[.slice ad n cp, .int .i64 x, .int .i64 y] W fun e w' => ∃ a2 n2 c2 ps, e = .returned (.slice a2 n2 c2) ∧ ERow EV w' a2 n2 ps ∧ n2 ≤ 4 + 4 * n ∧ (∀ p ∈ ps, p.ok = true) ∧ RowKit.Below W.heap.size W w' := by
  have HR := hide hr
  have HO := hide ho
  have hl := hr.n
  have CM : Hid (∀ W', Calls Tryz.prog 32 #[.int .i64 x, .int .i64 y] W' fun e w' => ∃ v : V, e = .returned (val v) ∧ v.ok = true ∧ RowKit.Below W'.heap.size W' w') := fun W' => make_any x y W' hx hy
  clear hr ho hx hy
  go_enter Tryz.func23, Tryz.ntmps23
  go_wp2_with fail
  refine (CM.out _).mono ?_
  rintro e w1 ⟨v, rfl, okv, b1⟩
  clear CM
  go_wp2_with fail
  refine (rleast_any _).mono ?_
  rintro e w2 ⟨rfl, b2⟩
  have HB2 := hide (step b1 b2)
  clear b1 b2
  go_wp2_with fail
  have O0 : Hid (EOwn EV (w2.alloc (.cells #[.int .i64 v.a, .int .i64 v.b, .int .i64 v.c, .string v.p, .int .i64 0, .int .i64 0, .int .i64 0, .string ⟨#[48]⟩, .int .i64 0, .int .i64 0, .int .i64 0, .string ⟨#[]⟩, .int .i64 999999, .int .i64 999999, .int .i64 999999, .string ⟨#[]⟩] 34)) W.heap.size (.slice (some ⟨w2.heap.size, 0, none⟩) 4 4) [v, ⟨0, 0, 0, ⟨#[48]⟩⟩, ⟨0, 0, 0, ⟨#[]⟩⟩, ⟨999999, 999999, 999999, ⟨#[]⟩⟩]) := World.ownsRow_lit w2 _ 4 HB2.out.size (by decide) rfl
  have B0 := hide (bal HB2.out (.cells #[.int .i64 v.a, .int .i64 v.b, .int .i64 v.c, .string v.p, .int .i64 0, .int .i64 0, .int .i64 0, .string ⟨#[48]⟩, .int .i64 0, .int .i64 0, .int .i64 0, .string ⟨#[]⟩, .int .i64 999999, .int .i64 999999, .int .i64 999999, .string ⟨#[]⟩] 34))
  have K0 : Hid (∀ p ∈ [v, ⟨0, 0, 0, ⟨#[48]⟩⟩, ⟨0, 0, 0, ⟨#[]⟩⟩, (⟨999999, 999999, 999999, ⟨#[]⟩⟩ : V)], p.ok = true) := by
    intro p hp
    simp only [List.mem_cons, List.not_mem_nil, or_false] at hp
    rcases hp with rfl | rfl | rfl | rfl
    · exact okv
    · decide +kernel
    · decide +kernel
    · decide +kernel
  generalize w2.alloc (.cells #[.int .i64 v.a, .int .i64 v.b, .int .i64 v.c, .string v.p, .int .i64 0, .int .i64 0, .int .i64 0, .string ⟨#[48]⟩, .int .i64 0, .int .i64 0, .int .i64 0, .string ⟨#[]⟩, .int .i64 999999, .int .i64 999999, .int .i64 999999, .string ⟨#[]⟩] 34) = w3 at *
  generalize hps0 : [v, ⟨0, 0, 0, ⟨#[48]⟩⟩, ⟨0, 0, 0, ⟨#[]⟩⟩, (⟨999999, 999999, 999999, ⟨#[]⟩⟩ : V)] = ps0 at *
  have HL0 : Hid (ps0.length = 4) := by rw [← hps0]; exact rfl
  clear hps0 okv HB2
  go_loopw [7, 8] (fun o i wr => ∃ (k : Nat) (ps : List V), k ≤ n ∧ i = .int .i64 k ∧ Hid (EOwn EV wr W.heap.size o ps) ∧ Hid (ps.length = 4 + 4 * k) ∧ Hid (∀ p ∈ ps, p.ok = true) ∧ Hid (RowKit.Below W.heap.size W wr)) (fun _ i _ => n - (RowKit.intOf i).toNat)
  case atStart => exact ⟨0, ps0, by omega, rfl, O0, HL0, K0, B0⟩
  case round =>
    clear O0 HL0 K0 B0
    obtain ⟨k, ps, hk, rfl, O1, HL, HK, HB⟩ := hrel
    by_cases hlt : k < n
    · obtain ⟨b, off, rfl⟩ := HR.out.spot (by omega)
      have hbW : b < W.heap.size := HR.out.lt (by omega)
      have hlk : k < l.length := by omega
      have hj : l[k]? = some l[k] := List.getElem?_eq_getElem hlk
      have hs := okPt_pt (HO.out _ (List.getElem_mem hlk))
      have hneb : some b ≠ u7.ownBlock := fun e => by have := (O1.out.low b e.symm).1; omega
      have HRk := hide (HR.out.later HB.out)
      have KD := fun w' (h : wr.grownBy w' u7.ownBlock) => ES_at (HRk.out.keptAt h hneb) k _ hj
      have d0 := fun w' h => (KD w' h).1
      have d1 := fun w' h => (KD w' h).2.1
      have d2 := fun w' h => (KD w' h).2.2.1
      have d3 := fun w' h => (KD w' h).2.2.2.1
      have d4 := fun w' h => (KD w' h).2.2.2.2.1
      have d5 := fun w' h => (KD w' h).2.2.2.2.2.1
      have d6 := fun w' h => (KD w' h).2.2.2.2.2.2.1
      have d7 := fun w' h => (KD w' h).2.2.2.2.2.2.2.1
      have HS := hide hs
      clear KD hs hbW
      generalize pt l[k] = q at *
      clear hj hlk
      have HK2 : Hid (∀ p ∈ ps ++ [⟨q.a, q.b, q.c, q.p⟩, ⟨q.a', q.b', q.c', q.p'⟩, ⟨q.a, q.b, q.c, ⟨#[]⟩⟩, ⟨q.a', q.b', q.c', ⟨#[48]⟩⟩], p.ok = true) := by
        refine okv_app HK.out ?_
        intro p hp
        simp only [List.mem_cons, List.not_mem_nil, or_false] at hp
        rcases hp with rfl | rfl | rfl | rfl
        · exact HS.out.1
        · exact HS.out.2
        · exact okv_abc HS.out.1 _ (by decide +kernel)
        · exact okv_abc HS.out.2 _ (by decide +kernel)
      have i1 : (0 : Int) ≤ (k : Int) := by omega
      have i2 : (k : Int) < (n : Int) := by omega
      go_wp2_with fail
      go_region_held3 (fun w' => wr.grownBy w' u7.ownBlock) (first | with_reducible assumption | exact grownBy_below _ (by repeat (first | with_reducible assumption | with_reducible exact Below.refl _ _ | with_reducible refine Below.setCell ?_ (by first | exact Nat.le_refl _ | (simp; done) | (simp; omega)) _ | with_reducible refine bal ?_ _ | with_reducible refine Below.alloc ?_ (by first | exact Nat.le_refl _ | (simp; done) | (simp; omega)) _ | with_reducible refine Below.drew ?_))) (first
        | (refine step_eapp EV rfl _ _ rfl W.heap.size _ ps (some _) 4 4 [⟨q.a, q.b, q.c, q.p⟩, ⟨q.a', q.b', q.c', q.p'⟩, ⟨q.a, q.b, q.c, ⟨#[]⟩⟩, ⟨q.a', q.b', q.c', ⟨#[48]⟩⟩] rfl rfl (O1.out.later (by repeat (first | with_reducible assumption | with_reducible exact Below.refl _ _ | with_reducible refine Below.setCell ?_ (by first | exact Nat.le_refl _ | (simp; done) | (simp; omega)) _ | with_reducible refine bal ?_ _ | with_reducible refine Below.alloc ?_ (by first | exact Nat.le_refl _ | (simp; done) | (simp; omega)) _ | with_reducible refine Below.drew ?_))) (ERow.lit EV wr.drew [⟨q.a, q.b, q.c, q.p⟩, ⟨q.a', q.b', q.c', q.p'⟩, ⟨q.a, q.b, q.c, ⟨#[]⟩⟩, ⟨q.a', q.b', q.c', ⟨#[48]⟩⟩] _) (by have := HL.out; omega) (by have := HB.out.size; simp; omega) ?_; intro v4 w4 o4 g4 t4; have g4 : wr.grownBy w4 u7.ownBlock := grownBy_trans (grownBy_below u7.ownBlock (by repeat (first | with_reducible assumption | with_reducible exact Below.refl _ _ | with_reducible refine Below.setCell ?_ (by first | exact Nat.le_refl _ | (simp; done) | (simp; omega)) _ | with_reducible refine bal ?_ _ | with_reducible refine Below.alloc ?_ (by first | exact Nat.le_refl _ | (simp; done) | (simp; omega)) _ | with_reducible refine Below.drew ?_))) g4 (.inl rfl)))
      clear d0 d1 d2 d3 d4 d5 d6 d7
      go_wp2_with fail
      go_roundw
      case rel => exact ⟨k + 1, _, by omega, by go_num, hide o4, hide (by have := HL.out; simp; omega), HK2, hide (HB.out.grown g4 HB.out.size (fun j e => (O1.out.low j e).1))⟩
      case measure => simp [RowKit.intOf]; omega
    · have hd : decide ((k : Int) < (n : Int)) = false := by simp; omega
      obtain ⟨a4, c4, rfl, _, _, r4⟩ := O1.out.any
      have R4 := hide r4
      clear r4
      go_wp2_with fail
      go_ret
      exact ⟨a4, _, c4, ps, rfl, R4.out, by have := HL.out; omega, HK.out, HB.out⟩
end Go.Proofs.YtmaklmgjkmbedaaGreatDoor
