/-
  Contracts of path's better, Find.
  Contract of the reference's Find.
  Contracts of the law's within, digits, Make, known.
-/
import Derived.Test.YtnmmhihfnphjeaaGreatDoorG31
import Derived.Test.YtnmmhihfnphjeaaGreatDoorG29
import Derived.Deep.AppendLies

namespace Go.Proofs.YtnmmhihfnphjeaaGreatDoor
set_option linter.unusedSimpArgs false
set_option linter.unusedVariables false
open Go.RowKit Go.Vr Go.Sort Go.Tx Go.Pa Go.Lib
attribute [local go_sem] setCellDrewN allocDrewN

theorem less_is : ∀ l k : List UInt8, decide (compareBytes l k < 0) = Op.bytesLess l k
  | [], [] => rfl
  | [], _ :: _ => rfl
  | _ :: _, [] => rfl
  | a :: x, b :: y => by
    have ih := less_is x y
    unfold compareBytes Op.bytesLess
    by_cases h : a < b
    · simp [h]
    · by_cases h2 : b < a
      · have h3 : ¬ a = b := fun e => by subst e; exact h h2
        simp [h, h2, h3]
      · have h3 : a = b := UInt8.toNat_inj.1 (by rw [UInt8.lt_iff_toNat_lt] at h h2; omega)
        subst h3
        simp [h, ih]

/-- A module as a value. -/
abbrev mod3 (x : ByteArray) (n : Int) (p : ByteArray) : Value := .agg #[.string x, .int .i64 n, .string p]

theorem better_val (p q : Bs) : (if (str (maj p).1).size = (str (maj q).1).size then decide (compareBytes (str p).data.toList (str q).data.toList < 0) else decide ((str (maj q).1).size < (str (maj p).1).size)) = better p q := by
  rw [str_size, str_size, str_list, str_list]
  by_cases h : (maj p).1.length = (maj q).1.length
  · rw [if_pos h, better_same h]
  · rw [if_neg h, better_else h]

/-- A module's variable. -/
structure ModAt (w : World) (N : Nat) (x : ByteArray) (n : Int) (p : ByteArray) : Prop where
  lt : N < w.heap.size
  c0 : w.cell? ⟨N, 0, none⟩ = some (.string x)
  c1 : w.cell? ⟨N, 1, none⟩ = some (.int .i64 n)
  c2 : w.cell? ⟨N, 2, none⟩ = some (.string p)
  f0 : w.frozen? ⟨N, 0, none⟩ = false
  f1 : w.frozen? ⟨N, 1, none⟩ = false
  f2 : w.frozen? ⟨N, 2, none⟩ = false
theorem ModAt.later {w w' : World} {N : Nat} {x : ByteArray} {n : Int} {p : ByteArray} (h : ModAt w N x n p) (b : Below w.heap.size w w') : ModAt w' N x n p :=
  ⟨Nat.lt_of_lt_of_le h.lt b.size, cellLater b h.c0, cellLater b h.c1, cellLater b h.c2, (b.frozen (p := ⟨N, 0, none⟩) h.lt).trans h.f0, (b.frozen (p := ⟨N, 1, none⟩) h.lt).trans h.f1, (b.frozen (p := ⟨N, 2, none⟩) h.lt).trans h.f2⟩
/-- Stored anew. -/
def putM (w : World) (N : Nat) (x : ByteArray) (n : Int) (p : ByteArray) : World := ((w.setCell ⟨N, 0, none⟩ (.string x)).setCell ⟨N, 1, none⟩ (.int .i64 n)).setCell ⟨N, 2, none⟩ (.string p)
theorem ModAt.put {w : World} {N : Nat} {x : ByteArray} {n : Int} {p : ByteArray} (h : ModAt w N x n p) (y : ByteArray) (m : Int) (q : ByteArray) : ModAt (putM w N y m q) N y m q := by
  obtain ⟨lt, c0, c1, c2, f0, f1, f2⟩ := h
  unfold putM
  exact ⟨by simpa [World.setCell] using lt, by simp [go_sem, c0, c1, c2], by simp [go_sem, c0, c1, c2], by simp [go_sem, c0, c1, c2], by simp [go_sem, f0], by simp [go_sem, f1], by simp [go_sem, f2]⟩
theorem VarAt.farM {w : World} {N M : Nat} {u : V} (h : VarAt w M u) (y : ByteArray) (m : Int) (q : ByteArray) (hne : N ≠ M) : VarAt (putM w N y m q) M u := by
  obtain ⟨lt, c0, c1, c2, c3, f0, f1, f2, f3⟩ := h
  unfold putM
  exact ⟨by simpa [World.setCell] using lt, by simp [go_sem, c0, hne], by simp [go_sem, c1, hne], by simp [go_sem, c2, hne], by simp [go_sem, c3, hne], by simp [go_sem, f0], by simp [go_sem, f1], by simp [go_sem, f2], by simp [go_sem, f3]⟩
theorem putM_below {B : Nat} {w w' : World} {N : Nat} (h : Below B w w') (hB : B ≤ N) (y : ByteArray) (m : Int) (q : ByteArray) : Below B w (putM w' N y m q) :=
  ((h.setCell hB _).setCell hB _).setCell hB _

def bx : Option Bs → ByteArray | none => ⟨#[]⟩ | some q => str (maj q).1
def bn : Option Bs → Int | none => 0 | some q => (maj q).2
def bp : Option Bs → ByteArray | none => ⟨#[]⟩ | some q => str q
/-- What Find answers. -/
def fval (o : Option Bs) : Value := .tuple #[.string (bp o), .bool o.isSome]
theorem take_getD (ws : List Bs) (k : Nat) (h : k < ws.length) : ws.take (k + 1) = ws.take k ++ [ws.getD k []] := by
  rw [List.take_add_one]
  simp [List.getD, List.getElem?_eq_getElem h]
theorem find_next {root : Bs} {a : Int} {ws : List Bs} {k : Nat} {x : Bs} {o : Option Bs} (h : o = find root a (ws.take k)) (e : ws.take (k + 1) = ws.take k ++ [x]) : pick root a o x = find root a (ws.take (k + 1)) := by
  rw [e, find_snoc, h]
theorem pick_not {root : Bs} {a : Int} {x : Bs} {o : Option Bs} (h : may root a x = false) : pick root a o x = o := by unfold pick; rw [if_neg (by simp [h])]
theorem pick_one {root : Bs} {a : Int} {x : Bs} (h : may root a x = true) : pick root a none x = some x := by unfold pick; rw [if_pos h]
theorem pick_two {root : Bs} {a : Int} {x q : Bs} (h : may root a x = true) (hb : better x q = true) : pick root a (some q) x = some x := by
  unfold pick; rw [if_pos h]; show (if better x q = true then some x else some q) = _; rw [if_pos hb]
theorem pick_old {root : Bs} {a : Int} {x q : Bs} (h : may root a x = true) (hb : better x q = false) : pick root a (some q) x = some q := by
  unfold pick; rw [if_pos h]; show (if better x q = true then some x else some q) = _; rw [if_neg (by simp [hb])]
theorem may_no1 {root : Bs} {a : Int} {x : Bs} (h : fits x a = false) : may root a x = false := by unfold may; rw [h]; rfl
theorem may_no2 {root : Bs} {a : Int} {x : Bs} (h : inside root (maj x).1 = false) : may root a x = false := by unfold may; rw [h]; simp
theorem may_yes {root : Bs} {a : Int} {x : Bs} (h : fits x a = true) (h2 : inside root (maj x).1 = true) : may root a x = true := by unfold may; rw [h, h2]; rfl

end Go.Proofs.YtnmmhihfnphjeaaGreatDoor

namespace Go.Proofs.YtnmmhihfnphjeaaGreatDoor
set_option linter.unusedSimpArgs false
set_option linter.unusedVariables false
open Go.RowKit Go.Vr Go.Sort Go.Tx Go.Pa Go.Lib
attribute [local go_sem] setCellDrewN allocDrewN

def lv : Option Bs → Int | none => -1 | some q => (maj q).1.length
theorem better_long {p q : Bs} (h : (maj q).1.length < (maj p).1.length) : better p q = true := by rw [better_else (by omega), decide_eq_true h]
theorem better_less {p q : Bs} (h : (maj p).1.length < (maj q).1.length) : better p q = false := by rw [better_else (by omega), decide_eq_false (by omega)]
theorem better_eq {p q : Bs} (h : (maj p).1.length = (maj q).1.length) : better p q = Op.bytesLess (str p).toList (str q).toList := by rw [better_same h, less_is, toList_data, toList_data, str_list, str_list]

end Go.Proofs.YtnmmhihfnphjeaaGreatDoor

namespace Go.Proofs.YtnmmhihfnphjeaaGreatDoor
set_option linter.unusedSimpArgs false
set_option linter.unusedVariables false
open Go.RowKit Go.Vr Go.Sort Go.Tx Go.Pa Go.Lib
attribute [local go_sem] setCellDrewN allocDrewN

set_option maxHeartbeats 400000 in
theorem within4_any (a n : Int) (w : World) (h1 : 1 ≤ n) (h2 : n ≤ 4611686018427387904) (h3 : -9223372036854775808 ≤ a) (h4 : a ≤ 9223372036854775807) :
    Calls Tryz.prog 62 #[.int .i64 a, .int .i64 n] w fun e w' => e = .returned (.int .i64 (a % n)) ∧ w' = w := by
  obtain ⟨hb1, hb2⟩ := Tx.tmod_bd a n h1
  go_enter Tryz.func62, Tryz.ntmps62
  go_wp2
  · go_ret
    exact ⟨ret_int (Tx.tmod_dn a n h1 (by assumption)), rfl⟩
  · go_ret
    exact ⟨ret_int (Tx.tmod_up a n h1 (by assumption)), rfl⟩

/-- A number from 0 to n - 1. -/
theorem within4_nat (a n : Int) (w : World) (h1 : 1 ≤ n) (h2 : n ≤ 4611686018427387904) (h3 : -9223372036854775808 ≤ a) (h4 : a ≤ 9223372036854775807) :
    Calls Tryz.prog 62 #[.int .i64 a, .int .i64 n] w fun e w' => ∃ k : Nat, e = .returned (.int .i64 k) ∧ (k : Int) < n ∧ Hid ((k : Int) = a % n) ∧ w' = w := by
  refine (within4_any a n w h1 h2 h3 h4).mono ?_
  rintro e w' ⟨rfl, rfl⟩
  have b1 := Int.emod_nonneg a (b := n) (by omega)
  have b2 := Int.emod_lt_of_pos a (b := n) (by omega)
  exact ⟨(a % n).toNat, by rw [Int.toNat_of_nonneg b1], by omega, Int.toNat_of_nonneg b1, rfl⟩


theorem remE (k m : Nat) : Int.tmod (k : Int) (m : Int) = ((k % m : Nat) : Int) := by
  rw [Int.tmod_eq_emod_of_nonneg (by omega)]; rfl
theorem quoE (k m : Nat) : Int.tdiv (k : Int) (m : Int) = ((k / m : Nat) : Int) := by
  rw [Int.tdiv_eq_ediv_of_nonneg (by omega)]; rfl

abbrev pobj : Obj := .cells #[.string ⟨#[97]⟩, .string ⟨#[98]⟩, .string ⟨#[97, 46, 98]⟩, .string ⟨#[99, 45, 100]⟩, .string ⟨#[118, 50]⟩, .string ⟨#[118, 51]⟩, .string ⟨#[118, 49]⟩, .string ⟨#[118, 48, 50]⟩, .string ⟨#[95]⟩, .string ⟨#[108, 105, 98]⟩, .string ⟨#[118, 50, 48]⟩] 9
theorem p_cells (w : World) : ∀ j, j < 11 → (w.alloc pobj).cell? ⟨w.heap.size, j, none⟩ = some (.string (str (pwA j))) := by
  intro j hj
  have e : pobj = .cells (pw.map fun x => Value.string (str x)).toArray 9 := rfl
  rw [e]
  have hl : j < pw.length := hj
  simp [pwA, List.getElem?_eq_getElem hl, List.getD]
theorem mk_step (i K : Nat) (s : Bs) : mkLoop (i + 1) K s = mkLoop i (K / 4) ((s ++ [47]) ++ pwA (K / 4 % 11)) := by
  show mkLoop i (K / 4) (s ++ 47 :: pwA (K / 4 % 11)) = _
  simp

set_option maxHeartbeats 4000000 in
set_option maxRecDepth 100000 in
theorem make4_any (n : Int) (w : World) (h0 : -9223372036854775808 ≤ n ∧ n ≤ 9223372036854775807) :
    Calls Tryz.prog 45 #[.int .i64 n] w fun e w' => e = .returned (.string (str (mkP n))) ∧ Below w.heap.size w w' := by
  obtain ⟨n1, n2⟩ := h0
  go_enter Tryz.func45, Tryz.ntmps45
  go_wp2_with fail
  refine (within4_nat _ _ _ (by omega) (by omega) (by omega) (by omega)).mono ?_
  rintro e w1 ⟨k, rfl, hk, hkn, rfl⟩
  have HK : Hid (mkP n = mkN k) := by
    show mkN (n % 1099511627776).toNat = _
    rw [← hkn.out]; rfl
  have hk2 : k < 1099511627776 := by omega
  have e0 := remE k 11
  have e1 := quoE k 11
  have e2 := remE (k / 11) 4
  have hx : k % 11 < 11 := Nat.mod_lt _ (by omega)
  have hi : k / 11 % 4 < 4 := Nat.mod_lt _ (by omega)
  have hq : k / 11 < 1099511627776 := by omega
  have HN : Hid (mkN k = mkLoop (k / 11 % 4) (k / 11) (pwA (k % 11))) := rfl
  have c0 := p_cells w1 (k % 11) hx
  have hp := hide (pw_ok (k % 11) hx).2
  have hw0 : str (pwA (k % 11)) = str (pwA (k % 11)) := rfl
  generalize k % 11 = x0 at *
  generalize k / 11 % 4 = i0 at *
  generalize k / 11 = q0 at *
  have HE := hide (And.intro e0 (And.intro e1 e2))
  clear e0 e1 e2 hkn n1 n2
  have e0 : Int.tmod (k : Int) 11 = (x0 : Int) := HE.out.1
  have e1 : Int.tdiv (k : Int) 11 = (q0 : Int) := HE.out.2.1
  have e2 : Int.tmod (q0 : Int) 4 = (i0 : Int) := HE.out.2.2
  have r1 : IntKind.i64.wrap (q0 : Int) = (q0 : Int) := by rw [IntKind.wrap_i64]; omega
  have i1 : (0 : Int) ≤ (x0 : Int) := by omega
  have i2 : (x0 : Int) < 11 := by omega
  have PC := hide (p_cells w1)
  have hB0 : Below w1.heap.size w1 (w1.alloc pobj) := (Below.refl _ _).alloc (Nat.le_refl _) _
  go_wp2_with fail
  go_loopw [3, 5, 6] (fun kk sv iv wr => ∃ (i K : Nat) (o : ByteArray), K < 1099511627776 ∧ i ≤ 3 ∧ kk = .int .i64 K ∧ iv = .int .i64 i ∧ sv = .string o ∧ Hid (mkN k = mkLoop i K o.data.toList) ∧ o.size ≤ 15 - 4 * i ∧ wr = w1.alloc pobj) (fun _ _ iv _ => (RowKit.intOf iv).toNat)
  case atStart => exact ⟨i0, q0, str (pwA (x0)), hq, by omega, rfl, rfl, rfl, by rw [str_list]; exact HN, by rw [str_size]; have := hp.out; omega, rfl⟩
  case round =>
    obtain ⟨i, K, o, hK, hi3, rfl, rfl, rfl, HL, ho, rfl⟩ := hrel
    clear c0 HN HE e0 e1 e2 r1 i1 i2 hx hi hq hp hw0
    cases i with
    | zero =>
      have hs : ¬ 40 < o.size := by omega
      have d4 : decide ((40 : Int) < (o.size : Int)) = false := decide_eq_false (by omega)
      have HO : Hid (o = str (mkP n)) := by show _ = _; rw [HK.out, HL.out]; exact str_eq o _ rfl
      have d0 : decide ((0 : Int) < ((0 : Nat) : Int)) = false := by decide
      clear ho hs
      go_wp2_with fail
      go_ret
      exact ⟨ret_str HO.out, hB0⟩
    | succ j =>
      have e1 := quoE K 4
      have e2 := remE (K / 4) 11
      have hx : K / 4 % 11 < 11 := Nat.mod_lt _ (by omega)
      have hq : K / 4 < 1099511627776 := by omega
      have hp := (pw_ok (K / 4 % 11) hx).2
      have HN : Hid (mkN k = mkLoop j (K / 4) ((o.data.toList ++ [47]) ++ pwA (K / 4 % 11))) := by show _ = _; rw [HL.out, mk_step]
      have c0 := PC.out _ hx
      generalize K / 4 % 11 = x at *
      generalize K / 4 = q at *
      have HE := hide (And.intro e1 e2)
      clear e1 e2 HL
      have e1 : Int.tdiv (K : Int) 4 = (q : Int) := HE.out.1
      have e2 : Int.tmod (q : Int) 11 = (x : Int) := HE.out.2
      have r1 : IntKind.i64.wrap (q : Int) = (q : Int) := by rw [IntKind.wrap_i64]; omega
      have i1 : (0 : Int) ≤ (x : Int) := by omega
      have i2 : (x : Int) < 11 := by omega
      have hy : (str (pwA x)).size ≤ 3 := by rw [str_size]; exact hp
      have HY : Hid ((str (pwA x)).data.toList = pwA x) := str_list _
      generalize str (pwA x) = y at *
      have n1 : ¬ 9223372036854775807 < o.size + 1 := by omega
      have n2 : ¬ 9223372036854775807 < (o ++ ⟨#[47]⟩).size + y.size := by rw [ByteArray.size_append]; have : (ByteArray.mk #[47]).size = 1 := rfl; omega
      have n3 : ((o ++ ⟨#[47]⟩) ++ y).size ≤ 15 - 4 * j := by rw [ByteArray.size_append, ByteArray.size_append]; have : (ByteArray.mk #[47]).size = 1 := rfl; omega
      have HM : Hid (mkN k = mkLoop j q ((o ++ ⟨#[47]⟩) ++ y).data.toList) := by show _ = _; rw [HN.out, ba_app, ba_app, HY.out]
      have N3 := hide n3
      have WJ : Hid (wrap64 (j : Int) = (j : Int)) := by show wrap64 (j : Int) = (j : Int); unfold wrap64; omega
      have HJ := hide hi3
      have d0 : decide ((0 : Int) < ((j + 1 : Nat) : Int)) = true := decide_eq_true (by omega)
      clear hx hp n3 ho hy hK hi3 HN HY
      go_wp2_with fail
      go_roundw
      case rel =>
        refine ⟨j, q, (o ++ ⟨#[47]⟩) ++ y, hq, by have := HJ.out; omega, rfl, ?_, rfl, HM, N3.out, trivial⟩
        rw [WJ.out]
      case measure =>
        rw [WJ.out]
        show (j : Int).toNat < (((j + 1 : Nat) : Int)).toNat
        omega

theorem row_new (w : World) (xs : List Bs) (c : Nat) : SRow (w.alloc (.cells (xs.map encStr).toArray 9)) (some ⟨w.heap.size, 0, none⟩) xs.length c xs := by
  refine ⟨rfl, (fun e => nomatch e), fun x e j v hj => ?_⟩
  obtain rfl : ⟨w.heap.size, 0, none⟩ = x := by simpa using e
  have := World.news_of_block (w := w.alloc (.cells (xs.map encStr).toArray 9)) (B := w.heap.size) (cs := (xs.map encStr).toArray) (t := 9) (fr := (0, 0)) (heap_alloc_new w _)
  exact this j v (by simpa using hj)


end Go.Proofs.YtnmmhihfnphjeaaGreatDoor
