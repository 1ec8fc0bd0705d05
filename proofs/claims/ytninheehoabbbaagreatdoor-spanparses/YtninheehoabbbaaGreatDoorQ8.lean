/-
  Contracts of Parse at a sign and a version, of Has, as the laws use them.
-/
import Derived.Test.YtninheehoabbbaaGreatDoorQ6
import Derived.Test.YtninheehoabbbaaGreatDoorM26
namespace Go.Proofs.YtninheehoabbbaaGreatDoor
set_option linter.unusedSimpArgs false
set_option linter.unusedVariables false
open Go.RowKit Go.Vr Go.Sort Go.Tx Go.Lib

theorem parse_sl (s : ByteArray) (l : List Sp.S) (q : Nat) (W : World) (he : Env W) (hs : s.size ≤ 2000) (ha : ∀ b ∈ s.data.toList, b.toNat < 128) (hp : Sp.parseS s.data.toList = (some l, q)) (hr : Sp.Row l) (hl : l.length ≤ 2) :
    Calls Tryz.prog 7 #[.string s] W fun e w' => ∃ ad n cp, e = .returned (.tuple #[.slice ad n cp, .int .i64 0, .int .i64 0]) ∧ SR w' ad n l 2 ∧ RowKit.Below W.heap.size W w' := by
  refine (sparse_any s W hs (ia_ascii s (by omega) ha) he).mono ?_
  rintro e w' ⟨h, hb⟩
  rw [hp] at h
  obtain ⟨v', rfl, ho⟩ : ∃ v', e = .returned (.tuple #[v', .int .i64 0, .int .i64 0]) ∧ EOwn ES w' W.heap.size v' l := h
  obtain ⟨ad, n, cp, rfl, h2⟩ := SR.of (B := 2) ho hr hl
  exact ⟨ad, n, cp, rfl, h2, hb⟩
theorem has_sl (W : World) (he : Env W) (ad : Option Addr) (n cp : Nat) (l : List Sp.S) (B : Nat) (v : V) (h : SR W ad n l B) (hB : B ≤ 1000) (hv : v.ok = true) :
    Calls Tryz.prog 13 #[.slice ad n cp, val v] W fun e w' => e = .returned (.bool (l.any (inSp (some (v, false))))) ∧ RowKit.Below W.heap.size W w' := by
  have hle := h.le
  exact has_any ad n cp l v W h.r (by omega) h.row.ok hv he
theorem rtext_v (v : V) (W : World) (hv : v.ok = true) :
    Calls Tryz.prog 65 #[val v] W fun e w' => e = .returned (.string (str (txt v))) ∧ RowKit.Below W.heap.size W w' :=
  rtext_any v.a v.b v.c v.p W (ok_1000 hv) (ok_bd hv).1 (ok_bd hv).2.1 (ok_bd hv).2.2
theorem signed_two {g : Bs} {v : V} {l : List Sp.S} (h : Sp.signedM g v = some l) : l.length ≤ 2 := by
  have h1 : ∀ a b, (Sp.only Sp.cmpC a b).length ≤ 2 := fun a b => Nat.le_trans (only_len a b) (by omega)
  have h2 : ∀ a b, (Sp.notL (Sp.only Sp.cmpC a b)).length ≤ 2 := fun a b => Nat.le_trans (not_len _) (by have := only_len a b; omega)
  unfold Sp.signedM at h
  repeat' split at h
  all_goals first
    | (cases h; exact h1 _ _)
    | (cases h; exact h2 _ _)
    | (cases h; done)
/-- A sign and a version. -/
theorem sign_sl (g : ByteArray) (v : V) (l : List Sp.S) (W : World) (he : Env W) (hv : v.ok = true) (hg : (g.data.toList.all fun c => decide (c.toNat < 128) && (c != 118) && Sp.isW c) = true) (hgs : g.size ≤ 4) (h : Sp.signedM g.data.toList v = some l) :
    Calls Tryz.prog 7 #[.string (g ++ str (txt v))] W fun e w' => ∃ ad n cp, e = .returned (.tuple #[.slice ad n cp, .int .i64 0, .int .i64 0]) ∧ SR w' ad n l 2 ∧ RowKit.Below W.heap.size W w' := by
  have hg2 : ∀ c ∈ g.data.toList, c.toNat < 128 ∧ c ≠ 118 ∧ Sp.isW c = true := fun c hc => by
    have := List.all_eq_true.1 hg c hc
    simp only [Bool.and_eq_true, decide_eq_true_eq, bne_iff_ne, ne_eq] at this
    exact ⟨this.1.1, this.1.2, this.2⟩
  have hrow : Sp.Row l := ⟨(Sp.ok_signed hv h).2, (Sp.ok_signed hv h).1⟩
  have hd : (g ++ str (txt v)).data.toList = g.data.toList ++ txt v := by rw [ba_app, str_list]
  have hb : ∀ c ∈ (g ++ str (txt v)).data.toList, c.toNat < 128 ∧ Sp.isW c = true := by
    intro c hc
    rw [hd] at hc
    rcases List.mem_append.1 hc with hc | hc
    · exact ⟨(hg2 c hc).1, (hg2 c hc).2.2⟩
    · exact ⟨Sp.vb_small c (Sp.txt_bytes hv c hc), Sp.vb_w (Sp.txt_bytes hv c hc)⟩
  have hz : (g ++ str (txt v)).size ≤ 2000 := by rw [ByteArray.size_append]; have := (ok_txt hv).1; omega
  refine parse_sl _ l _ W he hz (fun c hc => (hb c hc).1) (Sp.parse_word hrow (fun c hc => (hb c hc).2) ?_) hrow (signed_two h)
  rw [hd]
  exact (Sp.meant_signed hv fun c hc => (hg2 c hc).2.1).trans h
/-- From a version to a version. -/
theorem two_sl (v u : V) (W : World) (he : Env W) (hv : v.ok = true) (hu : u.ok = true) :
    Calls Tryz.prog 7 #[.string (str (txt v) ++ ⟨#[32, 45, 32]⟩ ++ str (txt u))] W fun e w' => ∃ ad n cp, e = .returned (.tuple #[.slice ad n cp, .int .i64 0, .int .i64 0]) ∧ SR w' ad n (Sp.only Sp.cmpC (some (v, false)) (some (u, true))) 2 ∧ RowKit.Below W.heap.size W w' := by
  have hd : (str (txt v) ++ ⟨#[32, 45, 32]⟩ ++ str (txt u)).data.toList = txt v ++ [32, 45, 32] ++ txt u := by rw [ba_app, ba_app, str_list, str_list]
  have hz : (str (txt v) ++ ⟨#[32, 45, 32]⟩ ++ str (txt u)).size ≤ 2000 := by
    have e : (⟨#[32, 45, 32]⟩ : ByteArray).size = 3 := rfl
    rw [ByteArray.size_append, ByteArray.size_append, e]
    have := (ok_txt hv).1
    have := (ok_txt hu).1
    omega
  refine parse_sl _ _ _ W he hz ?_ (by rw [hd]; exact Sp.parse_two hv hu) (Sp.row_only (Sp.ok_v hv _) (Sp.ok_v hu _)) (Nat.le_trans (only_len _ _) (by omega))
  intro c hc
  rw [hd] at hc
  rcases List.mem_append.1 hc with hc | hc
  · rcases List.mem_append.1 hc with hc | hc
    · exact Sp.vb_small c (Sp.txt_bytes hv c hc)
    · have : c = 32 ∨ c = 45 := by simp at hc; rcases hc with rfl | rfl | rfl <;> simp
      rcases this with rfl | rfl <;> decide
  · exact Sp.vb_small c (Sp.txt_bytes hu c hc)
end Go.Proofs.YtninheehoabbbaaGreatDoor
