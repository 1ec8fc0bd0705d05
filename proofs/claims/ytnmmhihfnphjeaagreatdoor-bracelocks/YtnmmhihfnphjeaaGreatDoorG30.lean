/-
  Plain mathematics of texts of braces: what is read is no longer than its text.
  Contract of read.
  Contract of Locks.
-/
import Derived.Test.YtnmmhihfnphjeaaGreatDoorG15
import Derived.Test.YtnmmhihfnphjeaaGreatDoorG29

namespace Go.Br
set_option linter.unusedVariables false
open Go.Tx Go.Lib

theorem unq_len : ∀ (n : Nat) (l : Bs) (y : Bs × Nat), l.length ≤ n → unq l = some y → y.1.length + 1 ≤ l.length
  | 0, l, y, hl, h => by
    obtain rfl := List.eq_nil_of_length_eq_zero (Nat.le_zero.1 hl)
    rw [unq.eq_def] at h
    cases h
  | n + 1, [], y, _, h => by
    rw [unq.eq_def] at h
    cases h
  | n + 1, c :: l, y, hl, h => by
    rw [unq_cons] at h
    by_cases h1 : c = 34
    · rw [if_pos h1] at h
      obtain rfl := Option.some.inj h
      simp
    · rw [if_neg h1] at h
      by_cases h2 : c = 92
      · rw [if_pos h2] at h
        cases l with
        | nil => cases h
        | cons d l' =>
          simp only at h
          cases hu : unesc d with
          | none => rw [hu] at h; cases h
          | some x =>
            rw [hu] at h
            simp only at h
            cases hq : unq l' with
            | none => rw [hq] at h; cases h
            | some z =>
              rw [hq] at h
              obtain rfl := Option.some.inj h
              have := unq_len n l' z (by simp at hl; omega) hq
              simp
              omega
      · rw [if_neg h2] at h
        by_cases h3 : prB (c.toNat : Int) = true
        · rw [if_pos h3] at h
          cases hq : unq l with
          | none => rw [hq] at h; cases h
          | some z =>
            rw [hq] at h
            obtain rfl := Option.some.inj h
            have := unq_len n l z (by simp at hl; omega) hq
            simp
            omega
        · rw [if_neg h3] at h
          cases h
theorem unquote_len {r s : Bs} {n : Nat} (h : unquote r = some (s, n)) : s.length ≤ r.length := by
  cases r with
  | nil => cases h
  | cons c l =>
    unfold unquote at h
    try simp only at h
    by_cases h1 : c = 34
    · rw [if_pos h1] at h
      cases hq : unq l with
      | none => rw [hq] at h; cases h
      | some z =>
        rw [hq] at h
        have e := Option.some.inj h
        have := unq_len l.length l z (Nat.le_refl _) hq
        obtain rfl : z.1 = s := congrArg Prod.fst e
        simp
        omega
    · rw [if_neg h1] at h
      cases h
theorem skip_len (r : Bs) : (skip r).length ≤ r.length := by
  unfold skip
  exact (List.dropWhile_suffix _).length_le

def leafB (N : Nat) : Leaf → Prop
  | .inl s => s.length ≤ N
  | _ => True
/-- Members, texts: no more, no longer than N. -/
def bnd (N : Nat) : (d : Nat) → Val d → Prop
  | 0, x => leafB N x
  | _ + 1, Sum.inl x => leafB N x
  | d + 1, Sum.inr (Sum.inl l) => l.length ≤ N ∧ ∀ x ∈ l, bnd N d x
  | d + 1, Sum.inr (Sum.inr l) => l.length ≤ N ∧ ∀ kx ∈ l, bnd N d kx.2
theorem leafB.mono {N M : Nat} (hM : N ≤ M) {x : Leaf} (h : leafB N x) : leafB M x := by
  match x, h with
  | .inl s, h => exact Nat.le_trans h hM
  | .inr _, _ => trivial
theorem bnd_mono {N M : Nat} (hM : N ≤ M) : ∀ {d : Nat} {x : Val d}, bnd N d x → bnd M d x
  | 0, _, h => h.mono hM
  | _ + 1, Sum.inl _, h => leafB.mono hM h
  | d + 1, Sum.inr (Sum.inl l), h => ⟨Nat.le_trans h.1 hM, fun x hx => bnd_mono hM (h.2 x hx)⟩
  | d + 1, Sum.inr (Sum.inr l), h => ⟨Nat.le_trans h.1 hM, fun x hx => bnd_mono hM (h.2 x hx)⟩

theorem leafM_b {r q : Bs} {x : Leaf} (h : leafM r = .inl (x, q)) : leafB r.length x ∧ q.length ≤ r.length := by
  unfold leafM at h
  by_cases h1 : r.head? = some 34
  · rw [if_pos h1] at h
    unfold quotedM at h
    cases hu : unquote r with
    | none => rw [hu] at h; cases h
    | some z =>
      obtain ⟨s, n⟩ := z
      rw [hu] at h
      simp only at h
      injection h with h
      injection h with e1 e2
      subst e1 e2
      exact ⟨unquote_len hu, by simp⟩
  · rw [if_neg h1] at h
    split at h
    · injection h with h
      injection h with e1 e2
      subst e1 e2
      exact ⟨trivial, by simp⟩
    · split at h
      · injection h with h
        injection h with e1 e2
        subst e1 e2
        exact ⟨trivial, by simp⟩
      · cases hn : numM r with
        | inr e => rw [hn] at h; cases h
        | inl z =>
          obtain ⟨n, q'⟩ := z
          rw [hn] at h
          simp only at h
          injection h with h
          injection h with e1 e2
          subst e1 e2
          refine ⟨trivial, ?_⟩
          unfold numM at hn
          simp only at hn
          split at hn
          · split at hn
            · injection hn with hn
              injection hn with e1 e2
              subst e2
              simp
            · cases hn
          · split at hn
            · injection hn with hn
              injection hn with e1 e2
              subst e2
              simp
            · cases hn

theorem around_b {α : Type} {P : Nat → α → Prop} (hP : ∀ N M a, N ≤ M → P N a → P M a) {f : Bs → R α} (hf : ∀ r a q, f r = .inl (a, q) → P r.length a ∧ q.length ≤ r.length) {r q : Bs} {a : α} (h : around f r = .inl (a, q)) : P r.length a ∧ q.length ≤ r.length := by
  unfold around at h
  cases hs : f (skip r) with
  | inr e => rw [hs] at h; cases h
  | inl z =>
    obtain ⟨b, q'⟩ := z
    rw [hs] at h
    simp only at h
    injection h with h
    injection h with e1 e2
    subst e1 e2
    obtain ⟨h1, h2⟩ := hf _ _ _ hs
    have h3 := skip_len r
    have h4 := skip_len q'
    exact ⟨hP _ _ _ h3 h1, by omega⟩

theorem items_b {α : Type} {P : Nat → α → Prop} (hP : ∀ N M a, N ≤ M → P N a → P M a) {f : List α → Bs → R α} (hf : ∀ acc r a q, f acc r = .inl (a, q) → P r.length a ∧ q.length ≤ r.length) (e : UInt8) :
    ∀ (n : Nat) (acc : List α) (r : Bs) (l : List α) (q : Bs), itemsM f e n acc r = .inl (l, q) → (∃ m, l = acc ++ m ∧ m.length ≤ n ∧ ∀ x ∈ m, P r.length x) ∧ q.length ≤ r.length
  | 0, _, _, _, _, h => by cases h
  | n + 1, acc, r, l, q, h => by
    unfold itemsM at h
    cases hs : f acc r with
    | inr x => rw [hs] at h; cases h
    | inl z =>
      obtain ⟨a, q'⟩ := z
      rw [hs] at h
      simp only at h
      obtain ⟨h1, h2⟩ := hf _ _ _ _ hs
      cases q' with
      | nil => cases h
      | cons c t =>
        simp only at h
        by_cases hc : c = e
        · rw [if_pos hc] at h
          injection h with h
          injection h with e1 e2
          subst e1 e2
          refine ⟨⟨[a], rfl, by simp, fun x hx => by rw [List.mem_singleton.1 hx]; exact h1⟩, by simp at h2; omega⟩
        · rw [if_neg hc] at h
          by_cases h44 : c = 44
          · rw [if_pos h44] at h
            obtain ⟨⟨m, e1, h3, h4⟩, h5⟩ := items_b hP hf e n (acc ++ [a]) t l q h
            have ht : t.length ≤ r.length := by simp at h2; omega
            refine ⟨⟨a :: m, by rw [e1]; simp, by simp; omega, fun x hx => ?_⟩, by omega⟩
            rcases List.mem_cons.1 hx with rfl | hx
            · exact h1
            · exact hP _ _ _ ht (h4 x hx)
          · rw [if_neg h44] at h
            cases h

theorem inside_b {α : Type} {P : Nat → α → Prop} (hP : ∀ N M a, N ≤ M → P N a → P M a) {f : List α → Bs → R α} (hf : ∀ acc r a q, f acc r = .inl (a, q) → P r.length a ∧ q.length ≤ r.length) (e : UInt8) {t : Bs} {l : List α} {q : Bs} (h : insideM f e t = .inl (l, q)) : l.length ≤ t.length + 1 ∧ (∀ x ∈ l, P t.length x) ∧ q.length ≤ t.length := by
  unfold insideM at h
  have hs := skip_len t
  by_cases h1 : (skip t).head? = some e
  · rw [if_pos h1] at h
    injection h with h
    injection h with e1 e2
    subst e1 e2
    refine ⟨by simp, by simp, by rw [List.length_tail]; omega⟩
  · rw [if_neg h1] at h
    obtain ⟨⟨m, e1, h3, h4⟩, h5⟩ := items_b hP hf e _ _ _ _ _ h
    rw [List.nil_append] at e1
    subst e1
    exact ⟨by omega, fun x hx => hP _ _ _ hs (h4 x hx), by omega⟩

theorem key_b {α : Type} {acc : List (Bs × α)} {r q k : Bs} (h : keyM acc r = .inl (k, q)) : q.length ≤ r.length := by
  unfold keyM at h
  split at h
  · cases h
  · split at h
    · cases h
    · rename_i n hu hc
      split at h
      · cases h
      · rename_i c t hst
        split at h
        · injection h with h
          injection h with e1 e2
          subst e2
          have h1 := skip_len r
          have h2 := skip_len ((skip r).drop n)
          rw [hst] at h2
          simp at h2
          omega
        · cases h

theorem pair_b {α : Type} {P : Nat → α → Prop} (hP : ∀ N M a, N ≤ M → P N a → P M a) {f : Bs → R α} (hf : ∀ r a q, f r = .inl (a, q) → P r.length a ∧ q.length ≤ r.length) {acc : List (Bs × α)} {r q : Bs} {x : Bs × α} (h : pairM f acc r = .inl (x, q)) : P r.length x.2 ∧ q.length ≤ r.length := by
  unfold pairM at h
  cases hk : keyM acc r with
  | inr e => rw [hk] at h; cases h
  | inl z =>
    obtain ⟨k, q1⟩ := z
    rw [hk] at h
    simp only at h
    have hq1 := key_b hk
    cases hv : f q1 with
    | inr e => rw [hv] at h; cases h
    | inl y =>
      obtain ⟨a, q2⟩ := y
      rw [hv] at h
      simp only at h
      injection h with h
      injection h with e1 e2
      subst e1 e2
      obtain ⟨h1, h2⟩ := hf _ _ _ hv
      exact ⟨hP _ _ _ hq1 h1, by omega⟩

theorem bare_b : ∀ (d : Nat) (r q : Bs) (x : Val d), bareM d r = .inl (x, q) → bnd r.length d x ∧ q.length ≤ r.length
  | 0, r, q, x, h => by
    unfold bareM at h
    split at h
    · cases h
    · exact leafM_b h
  | d + 1, r, q, x, h => by
    have ih := bare_b d
    have hP : ∀ N M (a : Val d), N ≤ M → bnd N d a → bnd M d a := fun N M a hM ha => bnd_mono hM ha
    have ha : ∀ r a q, around (bareM d) r = .inl (a, q) → bnd r.length d a ∧ q.length ≤ r.length := fun r a q h => around_b (P := fun N a => bnd N d a) hP (fun r a q h => ih r q a h) h
    unfold bareM at h
    by_cases h1 : r.head? = some 91
    · rw [if_pos h1] at h
      cases hi : insideM (fun _ => around (bareM d)) 93 r.tail with
      | inr e => rw [hi] at h; cases h
      | inl z =>
        obtain ⟨l, q'⟩ := z
        rw [hi] at h
        simp only at h
        injection h with h
        injection h with e1 e2
        subst e1 e2
        obtain ⟨i1, i2, i3⟩ := inside_b (P := fun N a => bnd N d a) hP (fun _ r a q h => ha r a q h) 93 hi
        have hl : r.tail.length + 1 = r.length := by
          cases r with
          | nil => cases h1
          | cons c t => rfl
        exact ⟨⟨by omega, fun x hx => bnd_mono (by omega) (i2 x hx)⟩, by omega⟩
    · rw [if_neg h1] at h
      by_cases h2 : r.head? = some 123
      · rw [if_pos h2] at h
        cases hi : insideM (pairM (around (bareM d))) 125 r.tail with
        | inr e => rw [hi] at h; cases h
        | inl z =>
          obtain ⟨l, q'⟩ := z
          rw [hi] at h
          simp only at h
          injection h with h
          injection h with e1 e2
          subst e1 e2
          obtain ⟨i1, i2, i3⟩ := inside_b (P := fun N (a : Bs × Val d) => bnd N d a.2) (fun N M a hM h => bnd_mono hM h) (fun acc r a q h => pair_b (P := fun N a => bnd N d a) hP ha h) 125 hi
          have hl : r.tail.length + 1 = r.length := by
            cases r with
            | nil => cases h2
            | cons c t => rfl
          exact ⟨⟨by omega, fun x hx => bnd_mono (by omega) (i2 x hx)⟩, by omega⟩
      · rw [if_neg h2] at h
        cases hl : leafM r with
        | inr e => rw [hl] at h; cases h
        | inl z =>
          obtain ⟨y, q'⟩ := z
          rw [hl] at h
          simp only at h
          injection h with h
          injection h with e1 e2
          subst e1 e2
          exact leafM_b hl

theorem parse_b {s : Bs} {x : Val 8} (h : parseM s = .inl x) : bnd 8000 8 x := by
  unfold parseM at h
  by_cases hl : 8000 < s.length
  · rw [if_pos hl] at h; cases h
  · rw [if_neg hl] at h
    cases hv : valM 8 s with
    | inr e => rw [hv] at h; cases h
    | inl z =>
      obtain ⟨y, q⟩ := z
      rw [hv] at h
      obtain ⟨h1, h2⟩ := around_b (P := fun N a => bnd N 8 a) (fun N M a hM h => bnd_mono hM h) (fun r a q h => bare_b 8 r q a h) hv
      cases q with
      | nil =>
        simp only at h
        injection h with h
        subst h
        exact bnd_mono (by omega) h1
      | cons c t => cases h

/-- What locks are made of is no longer than the value's texts. -/
theorem field_b {N : Nat} {l : List (Bs × Val 5)} (h : ∀ kx ∈ l, bnd N 5 kx.2) {k s : Bs} (hf : fieldM l k = some s) : s.length ≤ N := by
  unfold fieldM at hf
  cases ha : assoc l k with
  | none =>
    rw [ha] at hf
    obtain rfl : [] = s := Option.some.inj hf
    simp
  | some x =>
    rw [ha] at hf
    have hm : ∃ kx ∈ l, kx.2 = x := by
      unfold assoc at ha
      cases hf : l.find? (fun p => p.1 == k) with
      | none => rw [hf] at ha; cases ha
      | some p => rw [hf] at ha; exact ⟨p, List.mem_of_find?_eq_some hf, Option.some.inj ha⟩
    obtain ⟨kx, h1, rfl⟩ := hm
    have hb := h kx h1
    obtain ⟨k0, y⟩ := kx
    match y, hb, hf with
    | Sum.inl (.inl t), hb, hf =>
      obtain rfl : t = s := Option.some.inj hf
      exact hb
    | Sum.inl (.inr _), _, hf => cases hf
    | Sum.inr _, _, hf => cases hf
theorem lock_b {N : Nat} {x : Val 6} (h : bnd N 6 x) {k : Lk} (hk : lockM x = some k) : k.root.length ≤ N ∧ k.source.length ≤ N := by
  match x, h, hk with
  | Sum.inr (Sum.inr l), h, hk =>
    unfold lockM at hk
    simp only at hk
    cases h1 : fieldM l kPath <;> cases h2 : fieldM l kRev <;> cases h3 : fieldM l kVer <;> cases h4 : fieldM l kWithin <;> cases h5 : fieldM l kOrigin <;> simp only [h1, h2, h3, h4, h5] at hk <;> first
      | cases hk; done
      | (obtain rfl := Option.some.inj hk; exact ⟨field_b h.2 h1, field_b h.2 h5⟩)
  | Sum.inl _, _, hk => cases hk
  | Sum.inr (Sum.inl _), _, hk => cases hk
theorem lockMs_b {N : Nat} : ∀ {l : List (Val 6)} {ks : List Lk}, (∀ x ∈ l, bnd N 6 x) → lockMs l = some ks → ∀ k ∈ ks, k.root.length ≤ N ∧ k.source.length ≤ N
  | [], ks, _, h => by
    obtain rfl : [] = ks := Option.some.inj h
    simp
  | y :: l, ks, hb, h => by
    unfold lockMs at h
    cases hy : lockM y with
    | none => rw [hy] at h; cases h
    | some a =>
      rw [hy] at h
      simp only at h
      cases hl : lockMs l with
      | none => rw [hl] at h; cases h
      | some bs =>
        rw [hl] at h
        obtain rfl := Option.some.inj h
        intro k hk
        rcases List.mem_cons.1 hk with rfl | hk
        · exact lock_b (hb y (by simp)) hy
        · exact lockMs_b (fun x hx => hb x (List.mem_cons_of_mem _ hx)) hl k hk
theorem form_b {N : Nat} {x : Val 8} (h : bnd N 8 x) {ks : List Lk} (hk : formM x = some ks) : (∀ k ∈ ks, k.root.length ≤ N ∧ k.source.length ≤ N) ∧ ks.length ≤ N := by
  match x, h, hk with
  | Sum.inr (Sum.inr l), h, hk =>
    unfold formM at hk
    simp only at hk
    cases ha : assoc l kLocks with
    | none =>
      rw [ha] at hk
      obtain rfl : [] = ks := Option.some.inj hk
      exact ⟨by simp, by simp⟩
    | some y =>
      rw [ha] at hk
      have hm : ∃ kx ∈ l, kx.2 = y := by
        unfold assoc at ha
        cases hf : l.find? (fun p => p.1 == kLocks) with
        | none => rw [hf] at ha; cases ha
        | some p => rw [hf] at ha; exact ⟨p, List.mem_of_find?_eq_some hf, Option.some.inj ha⟩
      obtain ⟨kx, h1, rfl⟩ := hm
      have hb := h.2 kx h1
      obtain ⟨k0, y⟩ := kx
      match y, hb, hk with
      | Sum.inl _, _, hk => cases hk
      | Sum.inr (Sum.inr _), _, hk => cases hk
      | Sum.inr (Sum.inl ls), hb, hk =>
        refine ⟨lockMs_b hb.2 hk, ?_⟩
        have hl : ∀ {l : List (Val 6)} {ks : List Lk}, lockMs l = some ks → ks.length = l.length := by
          intro l
          induction l with
          | nil => intro ks h; obtain rfl : [] = ks := Option.some.inj h; rfl
          | cons y l ih =>
            intro ks h
            unfold lockMs at h
            cases hy : lockM y with
            | none => rw [hy] at h; cases h
            | some a =>
              rw [hy] at h
              simp only at h
              cases hl : lockMs l with
              | none => rw [hl] at h; cases h
              | some bs =>
                rw [hl] at h
                obtain rfl := Option.some.inj h
                simp [ih hl]
        rw [hl hk]
        exact hb.1
  | Sum.inl _, _, hk => cases hk
  | Sum.inr (Sum.inl _), _, hk => cases hk

end Go.Br

namespace Go.Proofs.YtnmmhihfnphjeaaGreatDoor.B
set_option linter.unusedSimpArgs false
set_option linter.unusedVariables false
open Go.RowKit Go.Vr Go.Sort Go.Tx Go.Lib
open Go.Pa (right)
open Go.Br hiding Bs
open Go.Proofs.YtnmmhihfnphjeaaGreatDoor.W (plc place_any)
attribute [local go_sem] setCellDrewN allocDrewN

theorem cnt_of {N : Nat} (hN : N ≤ 100000) : ∀ {d : Nat} {x : Val d}, bnd N d x → cnt d x
  | 0, _, _ => trivial
  | _ + 1, Sum.inl _, _ => trivial
  | d + 1, Sum.inr (Sum.inl l), h => ⟨Nat.le_trans h.1 hN, fun x hx => cnt_of hN (h.2 x hx)⟩
  | d + 1, Sum.inr (Sum.inr l), h => ⟨Nat.le_trans h.1 hN, fun x hx => cnt_of hN (h.2 x hx)⟩

/-- How read ends. -/
def RdPost (r : Option (List Lk)) (w : World) (e : Ending) (w' : World) : Prop := Below w.heap.size w w' ∧ match r with
  | none => e = .returned (.tuple #[.slice none 0 0, .int .i64 1])
  | some ks => ∃ v', e = .returned (.tuple #[v', .int .i64 (faultM ks)]) ∧ EOwn ELk w' w.heap.size v' ks

set_option maxHeartbeats 4000000 in
set_option maxRecDepth 100000 in
theorem read_any (x : Val 8) (v : SV) (Q : Nat → Prop) (w : World) (hv : VH w Q 8 x v) (hb : bnd 8000 8 x) (he : Env w) :
    Calls Tryz.prog 33 #[v.val] w (RdPost (formM x) w) := by
  have hB0 : Below w.heap.size w (w.alloc (.cells v.cells 28)) := (by repeat (first | with_reducible assumption | with_reducible exact Below.refl _ _ | with_reducible refine Below.setCell ?_ (by first | exact Nat.le_refl _ | (simp; done) | (simp; omega)) _ | with_reducible refine bal ?_ _ | with_reducible refine Below.alloc ?_ (by first | exact Nat.le_refl _ | (simp; done) | (simp; omega)) _ | with_reducible refine Below.drew ?_))
  have CF := hide (formed_any x v (fun _ => True) (w.alloc (.cells v.cells 28)) (hv.keep (fun i _ h => hB0.block i h) (fun _ _ _ => trivial)) (cnt_of (by omega) hb))
  have HB0 := hide hB0
  have HE := hide he
  have HBN := hide hb
  clear hv hB0 he hb
  obtain ⟨vk, vn, vs, ka, kn, kc, la, n, lc⟩ := v
  go_enter Tryz.func33, Tryz.ntmps33
  go_wp2_with fail
  refine CF.out.mono ?_
  rintro e w1 ⟨b1, hm⟩
  have HB1 := hide (HB0.out.trans (b1.mono HB0.out.size))
  clear b1 CF
  cases hf : formM x with
  | none =>
    rw [hf] at hm
    obtain rfl := hm
    have HF := hide hf
    clear hf
    go_wp2_with fail
    exact bodyPost_ret (v := .tuple #[.slice none 0 0, .int .i64 1]) (by simp [results, Tryz.results33, go_sem, *]) rfl ⟨HB1.out, by rw [HF.out]⟩
  | some ks =>
    rw [hf] at hm
    obtain ⟨v', rfl, ho⟩ := hm
    obtain ⟨ad, cap, rfl, hcn, hcm, hrow⟩ := ho.any
    have hbn := form_b HBN.out hf
    have CX := hide (fault_any ad ks.length cap ks w1 hrow (by have := hbn.2; omega) (HE.out.later HB1.out) (fun x hx => by have := hbn.1 x hx; omega))
    have HO := hide (ho.base HB0.out.size)
    have HF := hide hf
    clear hf ho hcn hcm hrow hbn
    go_wp2_with fail
    refine CX.out.mono ?_
    rintro e w2 ⟨rfl, b2⟩
    have HB2 := hide (HB1.out.trans (b2.mono HB1.out.size))
    have HO2 := hide (HO.out.later b2)
    clear b2 CX
    go_wp2_with fail
    exact bodyPost_ret (v := .tuple #[.slice ad ks.length cap, .int .i64 (faultM ks)]) (by simp [results, Tryz.results33, go_sem, *]) rfl ⟨HB2.out, by rw [HF.out]; exact ⟨_, rfl, HO2.out⟩⟩

/-- How Locks ends. -/
def LPost (s : ByteArray) (r : List Lk ⊕ (Nat × Nat)) (w : World) (e : Ending) (w' : World) : Prop := Below w.heap.size w w' ∧ match r with
  | .inl ks => ∃ v', e = .returned (.tuple #[v', .agg #[.int .i64 0, .int .i64 0], .int .i64 0]) ∧ EOwn ELk w' w.heap.size v' ks
  | .inr (n, k) => 1 ≤ n ∧ e = .returned (.tuple #[.slice none 0 0, plc (s.data.toList.take k), .int .i64 n])

end Go.Proofs.YtnmmhihfnphjeaaGreatDoor.B

namespace Go.Proofs.YtnmmhihfnphjeaaGreatDoor.B
set_option linter.unusedSimpArgs false
set_option linter.unusedVariables false
open Go.RowKit Go.Vr Go.Sort Go.Tx Go.Lib
open Go.Pa (right)
open Go.Br hiding Bs
open Go.Proofs.YtnmmhihfnphjeaaGreatDoor.W (plc place_any)
attribute [local go_sem] setCellDrewN allocDrewN

theorem box_set2 {w : World} {M : Nat} {z0 z1 : Value} (k : Box w M #[z0, z1]) (u0 u1 : Value) :
    Box ((w.setCell ⟨M, 0, none⟩ u0).setCell ⟨M, 1, none⟩ u1) M #[u0, u1] ∧ ∀ B, B ≤ M → Below B w ((w.setCell ⟨M, 0, none⟩ u0).setCell ⟨M, 1, none⟩ u1) :=
  ⟨(k.set 0 u0 (by simp)).set 1 u1 (by simp), fun B hB => ((Below.refl B w).setCell hB _).setCell hB _⟩

set_option maxHeartbeats 8000000 in
set_option maxRecDepth 100000 in
theorem locks_any (s : ByteArray) (w : World) (hs : s.size ≤ 2000000000000) (he : Env w) :
    Calls Tryz.prog 16 #[.string s] w (LPost s (locksM s.data.toList) w) := by
  have hB0 : Below w.heap.size w (w.alloc (.cells #[.int .i64 0, .int .i64 0] 32)) := (by repeat (first | with_reducible assumption | with_reducible exact Below.refl _ _ | with_reducible refine Below.setCell ?_ (by first | exact Nat.le_refl _ | (simp; done) | (simp; omega)) _ | with_reducible refine bal ?_ _ | with_reducible refine Below.alloc ?_ (by first | exact Nat.le_refl _ | (simp; done) | (simp; omega)) _ | with_reducible refine Below.drew ?_))
  have CP := hide (parse_any s (w.alloc (.cells #[.int .i64 0, .int .i64 0] 32)) hs)
  have CZ := hide (fun W => place_any s 0 W hs)
  have hX := Box.new w #[.int .i64 0, .int .i64 0] 32
  have HX := hide hX
  have HB0 := hide hB0
  have HE := hide he
  clear hX hB0 he hs
  go_enter Tryz.func16, Tryz.ntmps16
  go_wp2_with fail
  refine CP.out.mono ?_
  rintro e w1 ⟨b1, hm⟩
  have HB1 := hide (HB0.out.trans (b1.mono HB0.out.size))
  have HX1 := hide (HX.out.later b1)
  clear b1 CP
  cases hp : parseM s.data.toList with
  | inr y =>
    obtain ⟨n, k⟩ := y
    rw [hp] at hm
    obtain ⟨hn, rfl⟩ := hm
    have HQ : Hid (locksM s.data.toList = .inr (n, k)) := by show _ = _; unfold locksM; rw [hp]
    obtain ⟨i, j, hij⟩ : ∃ i j : Int, plc (s.data.toList.take k) = .agg #[.int .i64 i, .int .i64 j] := ⟨_, _, rfl⟩
    rw [hij]
    have HI := hide hij
    have HN := hide hn
    have dn : ((n : Int) != 0) = true := by simp; omega
    have B3 : Below w1.heap.size w1 ((w1.alloc (.cells SV.zero.cells 28)).alloc (.cells #[.int .i64 i, .int .i64 j] 32)) := (by repeat (first | with_reducible assumption | with_reducible exact Below.refl _ _ | with_reducible refine Below.setCell ?_ (by first | exact Nat.le_refl _ | (simp; done) | (simp; omega)) _ | with_reducible refine bal ?_ _ | with_reducible refine Below.alloc ?_ (by first | exact Nat.le_refl _ | (simp; done) | (simp; omega)) _ | with_reducible refine Below.drew ?_))
    have HX3 := hide (HX1.out.later B3)
    have HB3 := hide (HB1.out.trans (B3.mono HB1.out.size))
    have x1 := HX3.out.c
    have x1f := HX3.out.f
    clear hp hn hij B3
    go_wp2_with fail
    have p6 := (Box.new (w1.alloc (.cells SV.zero.cells 28)) #[.int .i64 i, .int .i64 j] 32).c
    rw [show (w1.alloc (.cells SV.zero.cells 28)).heap.size = w1.heap.size + 1 by simp] at p6
    generalize (w1.alloc (.cells SV.zero.cells 28)).alloc (.cells #[.int .i64 i, .int .i64 j] 32) = W3 at *
    go_region_law (fail)
    go_wp2_with fail
    obtain ⟨xs, xb⟩ := box_set2 HX3.out (.int .i64 i) (.int .i64 j)
    have xd := (xs.drewN 1).c
    have HV := hide (show LPost s (locksM s.data.toList) w (.returned (.tuple #[.slice none 0 0, .agg #[.int .i64 i, .int .i64 j], .int .i64 n])) (((W3.setCell ⟨w.heap.size, 0, none⟩ (.int .i64 i)).setCell ⟨w.heap.size, 1, none⟩ (.int .i64 j)).drew) from ⟨(HB3.out.trans (xb _ (Nat.le_refl _))).drew, by rw [HQ.out]; exact ⟨HN.out, by rw [HI.out]⟩⟩)
    have xd2 := xs.c
    clear xs xb x1 x1f p6
    exact bodyPost_ret (v := .tuple #[.slice none 0 0, .agg #[.int .i64 i, .int .i64 j], .int .i64 n]) (by simp [results, Tryz.results16, go_sem, *]) rfl HV.out
  | inl x =>
    rw [hp] at hm
    obtain ⟨v, rfl, hv⟩ := hm
    have hB2 : Below w1.heap.size w1 ((w1.alloc (.cells v.cells 28)).alloc (.cells #[.int .i64 0, .int .i64 0] 32)) := (by repeat (first | with_reducible assumption | with_reducible exact Below.refl _ _ | with_reducible refine Below.setCell ?_ (by first | exact Nat.le_refl _ | (simp; done) | (simp; omega)) _ | with_reducible refine bal ?_ _ | with_reducible refine Below.alloc ?_ (by first | exact Nat.le_refl _ | (simp; done) | (simp; omega)) _ | with_reducible refine Below.drew ?_))
    have CR := hide (read_any x v (fun _ => True) ((w1.alloc (.cells v.cells 28)).alloc (.cells #[.int .i64 0, .int .i64 0] 32)) (hv.keep (fun i _ h => hB2.block i h) (fun _ _ _ => trivial)) (parse_b hp) ((HE.out.later HB1.out).later hB2))
    have HB2 := hide (HB1.out.trans (hB2.mono HB1.out.size))
    have HX2 := hide (HX1.out.later hB2)
    have hv5 := ((Box.new w1 v.cells 28).alloc (.cells #[.int .i64 0, .int .i64 0] 32)).c
    have HP := hide hp
    obtain ⟨vk, vn, vs, ka, kn, kc, la, n, lc⟩ := v
    clear hp hv hB2
    go_wp2_with fail
    refine CR.out.mono ?_
    rintro e w3 ⟨b3, hm⟩
    have HB3 := hide (HB2.out.trans (b3.mono HB2.out.size))
    have HX3 := hide (HX2.out.later b3)
    have hbs := HB2.out.size
    clear b3 CR
    have x1 := HX3.out.c
    have x1f := HX3.out.f
    obtain ⟨i, j, hij⟩ : ∃ i j : Int, plc (s.data.toList.take (0 : Int).toNat) = .agg #[.int .i64 i, .int .i64 j] := ⟨_, _, rfl⟩
    have HI := hide hij
    have CZ3 := hide (CZ.out w3)
    rw [hij] at CZ3
    cases hf : formM x with
    | none =>
      rw [hf] at hm
      obtain rfl := hm
      have HQ : Hid (locksM s.data.toList = .inr (1, 0)) := by show _ = _; unfold locksM; rw [HP.out]; simp only [hf]
      clear hf hij
      go_wp2_with fail
      refine CZ3.out.mono ?_
      rintro e w4 ⟨rfl, b4⟩
      have HB4 := hide (HB3.out.trans (b4.mono HB3.out.size))
      have HX4 := hide (HX3.out.later b4)
      have x4 := HX4.out.c
      have x4f := HX4.out.f
      clear b4 CZ3 x1 x1f
      go_wp2_with fail
      obtain ⟨xs, xb⟩ := box_set2 HX4.out (.int .i64 i) (.int .i64 j)
      have HV := hide (show LPost s (locksM s.data.toList) w (.returned (.tuple #[.slice none 0 0, .agg #[.int .i64 i, .int .i64 j], .int .i64 1])) ((w4.setCell ⟨w.heap.size, 0, none⟩ (.int .i64 i)).setCell ⟨w.heap.size, 1, none⟩ (.int .i64 j)) from ⟨HB4.out.trans (xb _ (Nat.le_refl _)), by rw [HQ.out]; exact ⟨by omega, by rw [← HI.out]; rfl⟩⟩)
      have xd := xs.c
      clear xs xb x4 x4f
      exact bodyPost_ret (v := .tuple #[.slice none 0 0, .agg #[.int .i64 i, .int .i64 j], .int .i64 1]) (by simp [results, Tryz.results16, go_sem, *]) rfl HV.out
    | some ks =>
      rw [hf] at hm
      obtain ⟨v', rfl, ho⟩ := hm
      have HO := hide (ho.base hbs)
      obtain ⟨oa, oc, hoe, -, -, -⟩ := ho.any
      subst hoe
      have hbl := HB1.out.size
      have hx1 := HX1.out.lt
      have HOL : Hid (∀ k, (Value.slice oa ks.length oc).ownBlock = some k → k ≠ w.heap.size) := fun k e => by have := (ho.low k e).1; simp at this; omega
      obtain ⟨m, hfm⟩ : ∃ m, m = faultM ks := ⟨_, rfl⟩
      by_cases hm0 : faultM ks = 0
      · have HQ : Hid (locksM s.data.toList = .inl ks) := by show _ = _; unfold locksM; rw [HP.out]; simp only [hf]; rw [if_pos hm0]
        rw [hm0]
        clear hf hij hm0 hfm ho
        go_wp2_with fail
        obtain ⟨xs, xb⟩ := box_set2 HX3.out (.int .i64 0) (.int .i64 0)
        have HV := hide (show LPost s (locksM s.data.toList) w (.returned (.tuple #[.slice oa ks.length oc, .agg #[.int .i64 0, .int .i64 0], .int .i64 0])) ((w3.setCell ⟨w.heap.size, 0, none⟩ (.int .i64 0)).setCell ⟨w.heap.size, 1, none⟩ (.int .i64 0)) from ⟨HB3.out.trans (xb _ (Nat.le_refl _)), by rw [HQ.out]; exact ⟨_, rfl, (HO.out.setOther HOL.out).setOther HOL.out⟩⟩)
        have xd := xs.c
        clear xs xb x1 x1f
        exact bodyPost_ret (v := .tuple #[.slice oa ks.length oc, .agg #[.int .i64 0, .int .i64 0], .int .i64 0]) (by simp [results, Tryz.results16, go_sem, *]) rfl HV.out
      · have HQ : Hid (locksM s.data.toList = .inr (m, 0)) := by show _ = _; unfold locksM; rw [HP.out]; simp only [hf]; rw [if_neg hm0, hfm]
        rw [← hfm] at hm0 ⊢
        have HM := hide hm0
        have dm : ((m : Int) != 0) = true := by simp; omega
        clear hf hij hm0 hfm ho
        go_wp2_with fail
        refine CZ3.out.mono ?_
        rintro e w4 ⟨rfl, b4⟩
        have HB4 := hide (HB3.out.trans (b4.mono HB3.out.size))
        have HX4 := hide (HX3.out.later b4)
        have x4 := HX4.out.c
        have x4f := HX4.out.f
        clear b4 CZ3 x1 x1f
        go_wp2_with fail
        obtain ⟨xs, xb⟩ := box_set2 HX4.out (.int .i64 i) (.int .i64 j)
        have HV := hide (show LPost s (locksM s.data.toList) w (.returned (.tuple #[.slice none 0 0, .agg #[.int .i64 i, .int .i64 j], .int .i64 m])) ((w4.setCell ⟨w.heap.size, 0, none⟩ (.int .i64 i)).setCell ⟨w.heap.size, 1, none⟩ (.int .i64 j)) from ⟨HB4.out.trans (xb _ (Nat.le_refl _)), by rw [HQ.out]; exact ⟨by have := HM.out; omega, by rw [← HI.out]; rfl⟩⟩)
        have xd := xs.c
        clear xs xb x4 x4f
        exact bodyPost_ret (v := .tuple #[.slice none 0 0, .agg #[.int .i64 i, .int .i64 j], .int .i64 m]) (by simp [results, Tryz.results16, go_sem, *]) rfl HV.out

end Go.Proofs.YtnmmhihfnphjeaaGreatDoor.B
