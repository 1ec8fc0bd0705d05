/-
  What a word's spans have, by the order of versions alone.
  Contracts of Parse at a sign and a version, of Has, as the laws use them.
-/
import Derived.Test.YtohnlhfgajipgaaGreatDoorG15
import Derived.Test.YtohnlhfgajipgaaGreatDoorG32
import Derived.Test.YtohnlhfgajipgaaGreatDoorG28
import Derived.Test.YtohnlhfgajipgaaGreatDoorG31

namespace Go.Proofs.YtohnlhfgajipgaaGreatDoor
set_option linter.unusedVariables false
open Go.RowKit Go.Vr Go.Sort Go.Tx Go.Lib

theorem any_has (l : List Sp.S) (c : Sp.C) : l.any (inSp c) = true ↔ Sp.Has l c := by
  rw [List.any_eq_true]
  constructor
  · rintro ⟨s, hs, h⟩
    unfold inSp at h
    simp only [Bool.and_eq_true, decide_eq_true_eq] at h
    exact ⟨s, hs, h⟩
  · rintro ⟨s, hs, h⟩
    refine ⟨s, hs, ?_⟩
    unfold inSp
    simp only [Bool.and_eq_true, decide_eq_true_eq]
    exact h
theorem any_only (a b c : Sp.C) : (Sp.only Sp.cmpC a b).any (inSp c) = (decide (Sp.cmpC a c ≤ 0) && decide (Sp.cmpC c b < 0)) := by
  rw [Bool.eq_iff_iff, any_has]
  show Sp.In Sp.cmpC _ _ ↔ _
  rw [Sp.in_only Sp.ord_cut]
  simp only [Bool.and_eq_true, decide_eq_true_eq]
theorem any_nots {l : List Sp.S} (h : Sp.Row l) (c : Sp.C) (hc : Sp.InR c) : (Sp.notL l).any (inSp c) = !l.any (inSp c) := by
  rw [Bool.eq_iff_iff, any_has, Sp.has_not h, Bool.not_eq_true', ← Bool.not_eq_true, any_has]
  exact ⟨fun k => k.2, fun k => ⟨hc, k⟩⟩
theorem any_or (a b : List Sp.S) (c : Sp.C) : (Sp.nrm [a, b].flatten).any (inSp c) = (a.any (inSp c) || b.any (inSp c)) := by
  rw [Bool.eq_iff_iff, any_has, Sp.has_or, Bool.or_eq_true, any_has, any_has]
theorem any_or3 (a b d : List Sp.S) (c : Sp.C) : (Sp.nrm [a, b, d].flatten).any (inSp c) = (a.any (inSp c) || b.any (inSp c) || d.any (inSp c)) := by
  rw [Bool.eq_iff_iff, any_has, Sp.has_or3, Bool.or_eq_true, Bool.or_eq_true, any_has, any_has, any_has, or_assoc]
theorem any_and {a b : List Sp.S} (ha : Sp.Row a) (hb : Sp.Row b) (c : Sp.C) : (Sp.allL [a, b]).any (inSp c) = (a.any (inSp c) && b.any (inSp c)) := by
  rw [Bool.eq_iff_iff, any_has, Sp.has_and ha hb, Bool.and_eq_true, any_has, any_has]
theorem inR_v {v : V} (h : v.ok = true) : Sp.InR (some (v, false)) := ⟨Sp.start_le (Sp.ok_v h false), by rw [Sp.cmpC_sn]; decide⟩

section
variable {v u : V}
theorem c_ff : Sp.cmpC (some (v, false)) (some (u, false)) = cmpV v u := by
  rw [Sp.cmpC_ss]; show seq (cmpV v u) 0 = _; unfold seq; split <;> omega
theorem c_le_ff : decide (Sp.cmpC (some (v, false)) (some (u, false)) ≤ 0) = decide (0 ≤ cmpV u v) := by
  rw [c_ff, ord_ver.anti u v]; exact decide_eq_decide.2 (by omega)
theorem c_le_tf : decide (Sp.cmpC (some (v, true)) (some (u, false)) ≤ 0) = decide (0 < cmpV u v) := by
  have hb := ord_ver.bd u v
  rw [Sp.cmpC_ss]
  show decide (seq (cmpV v u) 1 ≤ 0) = _
  rw [ord_ver.anti u v]
  refine decide_eq_decide.2 ?_
  unfold seq; split <;> omega
theorem c_lt_ft : decide (Sp.cmpC (some (u, false)) (some (v, true)) < 0) = decide (cmpV u v ≤ 0) := by
  rw [Sp.cmpC_ss]
  show decide (seq (cmpV u v) (-1) < 0) = _
  refine decide_eq_decide.2 ?_
  unfold seq; split <;> omega
theorem c_lt_ff : decide (Sp.cmpC (some (u, false)) (some (v, false)) < 0) = decide (cmpV u v < 0) := by rw [c_ff]
theorem c_lt_n (p : V × Bool) : decide (Sp.cmpC (some p) none < 0) = true := rfl
theorem c_st (h : u.ok = true) : decide (Sp.cmpC Sp.start (some (u, false)) ≤ 0) = true := decide_eq_true (inR_v h).1

/-- The signs' texts, and what each asks of the order. -/
def opT : List Bs := [[], [61], [33, 61], [62], [62, 61], [60], [60, 61]]
def opW (c : Int) : List Bool := [c == 0, c == 0, c != 0, decide (0 < c), decide (0 ≤ c), decide (c < 0), decide (c ≤ 0)]
theorem eq_means : (Sp.only Sp.cmpC (some (v, false)) (some (v, true))).any (inSp (some (u, false))) = (cmpV u v == 0) := by
  rw [any_only, c_le_ff, c_lt_ft]
  rw [Bool.eq_iff_iff]
  simp only [Bool.and_eq_true, decide_eq_true_eq, beq_iff_eq]
  omega
theorem op_means (hv : v.ok = true) (hu : u.ok = true) (k : Nat) (hk : k < 7) : ∃ l, Sp.signedM (opT.getD k []) v = some l ∧ l.any (inSp (some (u, false))) = (opW (cmpV u v)).getD k false := by
  have ok1 := Sp.row_only (Sp.ok_v hv false) (Sp.ok_v hv true)
  have : k = 0 ∨ k = 1 ∨ k = 2 ∨ k = 3 ∨ k = 4 ∨ k = 5 ∨ k = 6 := by omega
  rcases this with rfl | rfl | rfl | rfl | rfl | rfl | rfl
  · exact ⟨_, rfl, eq_means⟩
  · exact ⟨_, rfl, eq_means⟩
  · refine ⟨_, rfl, ?_⟩
    rw [any_nots ok1 _ (inR_v hu), eq_means]; rfl
  · refine ⟨_, rfl, ?_⟩
    rw [any_only, c_le_tf, c_lt_n, Bool.and_true]; rfl
  · refine ⟨_, rfl, ?_⟩
    rw [any_only, c_le_ff, c_lt_n, Bool.and_true]; rfl
  · refine ⟨_, rfl, ?_⟩
    rw [any_only, c_st hu, c_lt_ff, Bool.true_and]; rfl
  · refine ⟨_, rfl, ?_⟩
    rw [any_only, c_st hu, c_lt_ft, Bool.true_and]; rfl
theorem both_means : (Sp.only Sp.cmpC (some (v, false)) (some (u, true))).any (inSp (some (u, false))) = decide (0 ≤ cmpV u v) := by
  rw [any_only, c_le_ff, c_lt_ft, ord_ver.refl]
  simp
theorem cmp_lt_int {x y : Int} (h : x < y) : compareInt x y = -1 := by unfold compareInt; rw [if_pos h]
theorem cmp_eq_int (x : Int) : compareInt x x = 0 := by unfold compareInt; rw [if_neg (by omega), if_neg (by omega)]
theorem lt_bumpA {x : V} (b : Bool) (h : x.a = v.a) : Sp.cmpC (some (x, b)) (Sp.bumpA v) < 0 := by
  unfold Sp.bumpA
  split
  · rw [Sp.cmpC_sn]; decide
  · refine Sp.cmp_lt _ _ ?_
    unfold cmpV
    simp only
    rw [h, cmp_lt_int (by omega), seq_ne (by decide)]; decide
theorem lt_bumpB {x : V} (b : Bool) (h : x.a = v.a) (h2 : x.b = v.b) : Sp.cmpC (some (x, b)) (Sp.bumpB v) < 0 := by
  unfold Sp.bumpB
  split
  · exact lt_bumpA b h
  · refine Sp.cmp_lt _ _ ?_
    unfold cmpV
    simp only
    rw [h, h2, cmp_eq_int, seq_zero, cmp_lt_int (by omega), seq_ne (by decide)]; decide
theorem lt_bumpC (b : Bool) : Sp.cmpC (some (v, b)) (Sp.bumpC v) < 0 := by
  unfold Sp.bumpC
  split
  · exact lt_bumpB b rfl rfl
  · refine Sp.cmp_lt _ _ ?_
    unfold cmpV
    simp only
    rw [cmp_eq_int, seq_zero, cmp_eq_int, seq_zero, cmp_lt_int (by omega), seq_ne (by decide)]; decide
theorem lt_bumpL (b : Bool) : Sp.cmpC (some (v, b)) (Sp.bumpL v) < 0 := by
  unfold Sp.bumpL
  split
  · exact lt_bumpA b rfl
  · split
    · exact lt_bumpB b rfl rfl
    · exact lt_bumpC b
theorem caret_self : (Sp.only Sp.cmpC (some (v, false)) (Sp.bumpL v)).any (inSp (some (v, false))) = true := by
  rw [any_only, c_le_ff, decide_eq_true (lt_bumpL false), ord_ver.refl]; rfl
theorem tilde_self : (Sp.only Sp.cmpC (some (v, false)) (Sp.bumpB v)).any (inSp (some (v, false))) = true := by
  rw [any_only, c_le_ff, decide_eq_true (lt_bumpB false rfl rfl), ord_ver.refl]; rfl
theorem caret_up {x : V} (h : x.a = v.a) (h0 : 0 < v.a) : (Sp.only Sp.cmpC (some (v, false)) (Sp.bumpL v)).any (inSp (some (x, false))) = decide (0 ≤ cmpV x v) := by
  have e : Sp.bumpL v = Sp.bumpA v := if_pos h0
  rw [e, any_only, c_le_ff, decide_eq_true (lt_bumpA false h), Bool.and_true]
theorem tilde_down {y : V} (h : y.a = v.a) (h2 : y.b = v.b) : (Sp.only Sp.cmpC (some (v, false)) (Sp.bumpB v)).any (inSp (some (y, false))) = decide (0 ≤ cmpV y v) := by
  rw [any_only, c_le_ff, decide_eq_true (lt_bumpB false h h2), Bool.and_true]
end
end Go.Proofs.YtohnlhfgajipgaaGreatDoor

namespace Go.Proofs.YtohnlhfgajipgaaGreatDoor
set_option linter.unusedSimpArgs false
set_option linter.unusedVariables false
open Go.RowKit Go.Vr Go.Sort Go.Tx Go.Lib

theorem parse_sl (s : ByteArray) (l : List Sp.S) (q : Nat) (W : World) (he : Env W) (hs : s.size ≤ 2000) (ha : ∀ b ∈ s.data.toList, b.toNat < 128) (hp : Sp.parseS s.data.toList = (some l, q)) (hr : Sp.Row l) (hl : l.length ≤ 2) :
    Calls Tryz.prog 30 #[.string s] W fun e w' => ∃ ad n cp, e = .returned (.tuple #[.slice ad n cp, .int .i64 0, .int .i64 0]) ∧ SR w' ad n l 2 ∧ RowKit.Below W.heap.size W w' := by
  refine (sparse_any s W hs (ia_ascii s (by omega) ha) he).mono ?_
  rintro e w' ⟨h, hb⟩
  rw [hp] at h
  obtain ⟨v', rfl, ho⟩ : ∃ v', e = .returned (.tuple #[v', .int .i64 0, .int .i64 0]) ∧ EOwn ES w' W.heap.size v' l := h
  obtain ⟨ad, n, cp, rfl, h2⟩ := SR.of (B := 2) ho hr hl
  exact ⟨ad, n, cp, rfl, h2, hb⟩
theorem has_sl (W : World) (he : Env W) (ad : Option Addr) (n cp : Nat) (l : List Sp.S) (B : Nat) (v : V) (h : SR W ad n l B) (hB : B ≤ 1000) (hv : v.ok = true) :
    Calls Tryz.prog 24 #[.slice ad n cp, val v] W fun e w' => e = .returned (.bool (l.any (inSp (some (v, false))))) ∧ RowKit.Below W.heap.size W w' := by
  have hle := h.le
  exact has_any ad n cp l v W h.r (by omega) h.row.ok hv he
theorem rtext_v (v : V) (W : World) (hv : v.ok = true) :
    Calls Tryz.prog 33 #[val v] W fun e w' => e = .returned (.string (str (txt v))) ∧ RowKit.Below W.heap.size W w' :=
  rtext_any v.a v.b v.c v.p W (ok_1000 hv) (ok_bd hv).1 (ok_bd hv).2.1 (ok_bd hv).2.2
theorem signed_two {g : Bs} {v : V} {l : List Sp.S} (h : Sp.signedM g v = some l) : l.length ≤ 2 := by
  have h1 : ∀ a b, (Sp.only Sp.cmpC a b).length ≤ 2 := fun a b => Nat.le_trans (only_len a b) (by omega)
  have h2 : ∀ a b, (Sp.notL (Sp.only Sp.cmpC a b)).length ≤ 2 := fun a b => Nat.le_trans (not_len _) (by have := only_len a b; omega)
  unfold Sp.signedM at h
  repeat' split at h
  all_goals first
    | (cases h; exact h1 _ _)
    | (cases h; exact h2 _ _)
    | (cases h; done)
/-- A sign and a version. -/
theorem sign_sl (g : ByteArray) (v : V) (l : List Sp.S) (W : World) (he : Env W) (hv : v.ok = true) (hg : (g.data.toList.all fun c => decide (c.toNat < 128) && (c != 118) && Sp.isW c) = true) (hgs : g.size ≤ 4) (h : Sp.signedM g.data.toList v = some l) :
    Calls Tryz.prog 30 #[.string (g ++ str (txt v))] W fun e w' => ∃ ad n cp, e = .returned (.tuple #[.slice ad n cp, .int .i64 0, .int .i64 0]) ∧ SR w' ad n l 2 ∧ RowKit.Below W.heap.size W w' := by
  have hg2 : ∀ c ∈ g.data.toList, c.toNat < 128 ∧ c ≠ 118 ∧ Sp.isW c = true := fun c hc => by
    have := List.all_eq_true.1 hg c hc
    simp only [Bool.and_eq_true, decide_eq_true_eq, bne_iff_ne, ne_eq] at this
    exact ⟨this.1.1, this.1.2, this.2⟩
  have hrow : Sp.Row l := ⟨(Sp.ok_signed hv h).2, (Sp.ok_signed hv h).1⟩
  have hd : (g ++ str (txt v)).data.toList = g.data.toList ++ txt v := by rw [ba_app, str_list]
  have hb : ∀ c ∈ (g ++ str (txt v)).data.toList, c.toNat < 128 ∧ Sp.isW c = true := by
    intro c hc
    rw [hd] at hc
    rcases List.mem_append.1 hc with hc | hc
    · exact ⟨(hg2 c hc).1, (hg2 c hc).2.2⟩
    · exact ⟨Sp.vb_small c (Sp.txt_bytes hv c hc), Sp.vb_w (Sp.txt_bytes hv c hc)⟩
  have hz : (g ++ str (txt v)).size ≤ 2000 := by rw [ByteArray.size_append]; have := (ok_txt hv).1; omega
  refine parse_sl _ l _ W he hz (fun c hc => (hb c hc).1) (Sp.parse_word hrow (fun c hc => (hb c hc).2) ?_) hrow (signed_two h)
  rw [hd]
  exact (Sp.meant_signed hv fun c hc => (hg2 c hc).2.1).trans h
/-- From a version to a version. -/
theorem two_sl (v u : V) (W : World) (he : Env W) (hv : v.ok = true) (hu : u.ok = true) :
    Calls Tryz.prog 30 #[.string (str (txt v) ++ ⟨#[32, 45, 32]⟩ ++ str (txt u))] W fun e w' => ∃ ad n cp, e = .returned (.tuple #[.slice ad n cp, .int .i64 0, .int .i64 0]) ∧ SR w' ad n (Sp.only Sp.cmpC (some (v, false)) (some (u, true))) 2 ∧ RowKit.Below W.heap.size W w' := by
  have hd : (str (txt v) ++ ⟨#[32, 45, 32]⟩ ++ str (txt u)).data.toList = txt v ++ [32, 45, 32] ++ txt u := by rw [ba_app, ba_app, str_list, str_list]
  have hz : (str (txt v) ++ ⟨#[32, 45, 32]⟩ ++ str (txt u)).size ≤ 2000 := by
    have e : (⟨#[32, 45, 32]⟩ : ByteArray).size = 3 := rfl
    rw [ByteArray.size_append, ByteArray.size_append, e]
    have := (ok_txt hv).1
    have := (ok_txt hu).1
    omega
  refine parse_sl _ _ _ W he hz ?_ (by rw [hd]; exact Sp.parse_two hv hu) (Sp.row_only (Sp.ok_v hv _) (Sp.ok_v hu _)) (Nat.le_trans (only_len _ _) (by omega))
  intro c hc
  rw [hd] at hc
  rcases List.mem_append.1 hc with hc | hc
  · rcases List.mem_append.1 hc with hc | hc
    · exact Sp.vb_small c (Sp.txt_bytes hv c hc)
    · have : c = 32 ∨ c = 45 := by simp at hc; rcases hc with rfl | rfl | rfl <;> simp
      rcases this with rfl | rfl <;> decide
  · exact Sp.vb_small c (Sp.txt_bytes hu c hc)
end Go.Proofs.YtohnlhfgajipgaaGreatDoor
