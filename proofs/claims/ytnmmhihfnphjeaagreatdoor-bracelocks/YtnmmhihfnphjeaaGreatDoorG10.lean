/-
  Plain mathematics of orders: a comparison that says -1, 0, 1; pairs, lists, keys of such.
  Plain mathematics of versions: words, which may be, their order, the greatest.
-/
import Derived.Lib.Bytealg
import Derived.Lib.Small
import Derived.Test.YtnmmhihfnphjeaaGreatDoorG01

namespace Go.Vr
set_option linter.unusedVariables false
open Go.Lib

/-- A comparison that is an order: each way, through three, the same just of the same. -/
structure Ord {α : Type} (cmp : α → α → Int) : Prop where
  anti : ∀ a b, cmp b a = - cmp a b
  le : ∀ a b c, cmp a b ≤ 0 → cmp b c ≤ 0 → cmp a c ≤ 0
  eq : ∀ a b, cmp a b = 0 ↔ a = b
  bd : ∀ a b, -1 ≤ cmp a b ∧ cmp a b ≤ 1

/-- The first that is not 0. -/
def seq (x y : Int) : Int := if x = 0 then y else x
theorem seq_zero (y : Int) : seq 0 y = y := rfl
theorem seq_ne {x y : Int} (h : x ≠ 0) : seq x y = x := if_neg h
theorem seq_right (x : Int) : seq x 0 = x := by unfold seq; split <;> omega
theorem seq_assoc (x y z : Int) : seq (seq x y) z = seq x (seq y z) := by
  unfold seq; by_cases h : x = 0
  · simp [h]
  · simp [h]

theorem Ord.refl {α : Type} {cmp : α → α → Int} (h : Ord cmp) (a : α) : cmp a a = 0 := (h.eq a a).2 rfl
theorem Ord.lt_le {α : Type} {cmp : α → α → Int} (h : Ord cmp) (a b c : α) (h1 : cmp a b < 0) (h2 : cmp b c ≤ 0) : cmp a c < 0 := by
  have h3 := h.le a b c (by omega) h2
  by_cases e : cmp a c = 0
  · have e2 := (h.eq a c).1 e
    subst e2
    have := h.anti a b
    omega
  · omega
theorem Ord.le_lt {α : Type} {cmp : α → α → Int} (h : Ord cmp) (a b c : α) (h1 : cmp a b ≤ 0) (h2 : cmp b c < 0) : cmp a c < 0 := by
  have h3 := h.le a b c h1 (by omega)
  by_cases e : cmp a c = 0
  · have e2 := (h.eq a c).1 e
    subst e2
    have := h.anti a b
    omega
  · omega

theorem ord_int : Ord compareInt where
  anti a b := by unfold compareInt; repeat' split
                 all_goals omega
  le a b c := by unfold compareInt; repeat' split
                 all_goals omega
  eq a b := by unfold compareInt; repeat' split
               all_goals omega
  bd a b := by unfold compareInt; repeat' split
               all_goals omega

/-- A key that tells all apart. -/
theorem Ord.pull {α β : Type} {cmp : β → β → Int} (h : Ord cmp) (f : α → β) (hf : ∀ a b, f a = f b → a = b) : Ord (fun a b => cmp (f a) (f b)) where
  anti a b := h.anti _ _
  le a b c := h.le _ _ _
  eq a b := ⟨fun e => hf a b ((h.eq _ _).1 e), fun e => by rw [e]; exact h.refl _⟩
  bd a b := h.bd _ _

/-- By the first, then by the second. -/
theorem Ord.pair {α β : Type} {c1 : α → α → Int} {c2 : β → β → Int} (h1 : Ord c1) (h2 : Ord c2) : Ord (fun (x y : α × β) => seq (c1 x.1 y.1) (c2 x.2 y.2)) where
  anti x y := by
    have e1 := h1.anti x.1 y.1
    have e2 := h2.anti x.2 y.2
    unfold seq
    split <;> split <;> omega
  le x y z hxy hyz := by
    unfold seq at *
    by_cases e1 : c1 x.1 y.1 = 0
    · rw [if_pos e1] at hxy
      have := (h1.eq _ _).1 e1
      by_cases e2 : c1 y.1 z.1 = 0
      · rw [if_pos e2] at hyz
        rw [← this] at e2
        rw [if_pos e2]
        exact h2.le _ _ _ hxy hyz
      · rw [if_neg e2] at hyz
        rw [← this] at e2 hyz
        rw [if_neg e2]; exact hyz
    · rw [if_neg e1] at hxy
      by_cases e2 : c1 y.1 z.1 = 0
      · have := (h1.eq _ _).1 e2
        rw [← this, if_neg e1]; exact hxy
      · rw [if_neg e2] at hyz
        have := h1.lt_le _ _ _ (show c1 x.1 y.1 < 0 by omega) hyz
        rw [if_neg (by omega)]; omega
  eq x y := by
    unfold seq
    constructor
    · intro h
      split at h
      · rename_i e; exact Prod.ext ((h1.eq _ _).1 e) ((h2.eq _ _).1 h)
      · rename_i e; exact absurd h e
    · rintro rfl
      rw [if_pos (h1.refl _)]; exact h2.refl _
  bd x y := by
    have b1 := h1.bd x.1 y.1
    have b2 := h2.bd x.2 y.2
    unfold seq; split <;> omega

/-- Lists, part by part; which ends first is less. -/
def lex {α : Type} (cmp : α → α → Int) : List α → List α → Int
  | [], [] => 0
  | [], _ :: _ => -1
  | _ :: _, [] => 1
  | a :: az, b :: bs => seq (cmp a b) (lex cmp az bs)

theorem lex_bd {α : Type} {cmp : α → α → Int} (h : Ord cmp) : ∀ a b, -1 ≤ lex cmp a b ∧ lex cmp a b ≤ 1
  | [], [] => by simp [lex]
  | [], _ :: _ => by simp [lex]
  | _ :: _, [] => by simp [lex]
  | a :: az, b :: bs => by
    have h1 := h.bd a b
    have h2 := lex_bd h az bs
    unfold lex seq; split <;> omega
theorem lex_anti {α : Type} {cmp : α → α → Int} (h : Ord cmp) : ∀ a b, lex cmp b a = - lex cmp a b
  | [], [] => rfl
  | [], _ :: _ => rfl
  | _ :: _, [] => rfl
  | a :: az, b :: bs => by
    have h1 := h.anti a b
    have h2 := lex_anti h az bs
    unfold lex seq; split <;> split <;> omega
theorem lex_eq {α : Type} {cmp : α → α → Int} (h : Ord cmp) : ∀ a b, lex cmp a b = 0 ↔ a = b
  | [], [] => by simp [lex]
  | [], _ :: _ => by simp [lex]
  | _ :: _, [] => by simp [lex]
  | a :: az, b :: bs => by
    have h1 := h.eq a b
    have h2 := lex_eq h az bs
    unfold lex seq
    split
    · rename_i e; rw [h2]; simp [h1.1 e]
    · rename_i e
      constructor
      · intro k; exact absurd k e
      · intro k; injection k with k1 k2; exact absurd (h1.2 k1) e
theorem lex_le {α : Type} {cmp : α → α → Int} (h : Ord cmp) : ∀ a b c, lex cmp a b ≤ 0 → lex cmp b c ≤ 0 → lex cmp a c ≤ 0
  | [], _, [], _, _ => by simp [lex]
  | [], _, _ :: _, _, _ => by simp [lex]
  | _ :: _, [], _, k, _ => by simp [lex] at k
  | _ :: _, _ :: _, [], _, k => by simp [lex] at k
  | a :: az, b :: bs, c :: cs, k1, k2 => by
    have ih := lex_le h az bs cs
    unfold lex seq at k1 k2 ⊢
    by_cases e1 : cmp a b = 0
    · rw [if_pos e1] at k1
      have := (h.eq _ _).1 e1
      subst this
      by_cases e2 : cmp a c = 0
      · rw [if_pos e2] at k2 ⊢; exact ih k1 k2
      · rw [if_neg e2] at k2 ⊢; exact k2
    · rw [if_neg e1] at k1
      by_cases e2 : cmp b c = 0
      · have := (h.eq _ _).1 e2
        subst this
        rw [if_neg e1]; exact k1
      · rw [if_neg e2] at k2
        have := h.lt_le _ _ _ (show cmp a b < 0 by omega) k2
        rw [if_neg (by omega)]; omega
theorem Ord.lex {α : Type} {cmp : α → α → Int} (h : Ord cmp) : Ord (lex cmp) := ⟨lex_anti h, lex_le h, lex_eq h, lex_bd h⟩

theorem lex_same {α : Type} {cmp : α → α → Int} (h : Ord cmp) : ∀ (l a b : List α), Vr.lex cmp (l ++ a) (l ++ b) = Vr.lex cmp a b
  | [], _, _ => rfl
  | x :: l, a, b => by
    show seq (cmp x x) (Vr.lex cmp (l ++ a) (l ++ b)) = _
    rw [h.refl, seq_zero, lex_same h l a b]
theorem lex_more {α : Type} {cmp : α → α → Int} (h : Ord cmp) (l : List α) (x : α) (a : List α) : Vr.lex cmp l (l ++ x :: a) = -1 := by
  have := lex_same h l [] (x :: a)
  rw [List.append_nil] at this
  rw [this]; rfl

def cmpB (a b : UInt8) : Int := compareInt (a.toNat : Int) (b.toNat : Int)
theorem ord_byte : Ord cmpB := ord_int.pull (fun a : UInt8 => (a.toNat : Int)) (fun a b e => UInt8.toNat_inj.1 (by omega))
theorem bytes_lex : ∀ a b, compareBytes a b = lex cmpB a b
  | [], [] => rfl
  | [], _ :: _ => rfl
  | _ :: _, [] => rfl
  | a :: az, b :: bs => by
    have ih := bytes_lex az bs
    unfold compareBytes Vr.lex
    have e1 : a < b ↔ (a.toNat : Int) < b.toNat := by rw [UInt8.lt_iff_toNat_lt]; omega
    have e2 : b < a ↔ (b.toNat : Int) < a.toNat := by rw [UInt8.lt_iff_toNat_lt]; omega
    by_cases h1 : a < b
    · rw [if_pos h1]
      have : cmpB a b = -1 := by unfold cmpB compareInt; rw [if_pos (e1.1 h1)]
      rw [this]; rfl
    · rw [if_neg h1]
      have n1 : ¬ (a.toNat : Int) < b.toNat := fun k => h1 (e1.2 k)
      by_cases h2 : b < a
      · rw [if_pos h2]
        have : cmpB a b = 1 := by unfold cmpB compareInt; rw [if_neg n1, if_pos (e2.1 h2)]
        rw [this]; rfl
      · rw [if_neg h2]
        have n2 : ¬ (b.toNat : Int) < a.toNat := fun k => h2 (e2.2 k)
        have : cmpB a b = 0 := by unfold cmpB compareInt; rw [if_neg n1, if_neg n2]
        rw [this, seq_zero, ih]
theorem ord_bytes : Ord compareBytes := by
  have : compareBytes = lex cmpB := funext fun a => funext fun b => bytes_lex a b
  rw [this]; exact ord_byte.lex

end Go.Vr

namespace Go.Vr
set_option linter.unusedVariables false
open Go.Lib Go.Tx

abbrev Bs := List UInt8

/-- Parted by dots. -/
def words : Bs → List Bs
  | [] => [[]]
  | c :: r => if c = 46 then [] :: words r else match words r with | [] => [[c]] | w :: ws => (c :: w) :: ws

theorem words_ne : ∀ l, words l ≠ []
  | [] => by simp [words]
  | c :: r => by
    unfold words
    split
    · simp
    · split <;> simp
theorem words_dot (r : Bs) : words (46 :: r) = [] :: words r := by rw [words, if_pos rfl]
theorem words_cons {c : UInt8} {r w : Bs} {ws : List Bs} (h : c ≠ 46) (e : words r = w :: ws) : words (c :: r) = (c :: w) :: ws := by
  rw [words, if_neg h, e]
theorem words_app (b : Bs) : ∀ a, words (a ++ 46 :: b) = words a ++ words b
  | [] => by simp [words]
  | c :: a => by
    have ih := words_app b a
    by_cases h : c = 46
    · subst h; rw [List.cons_append, words_dot, words_dot, ih]; rfl
    · cases e : words a with
      | nil => exact absurd e (words_ne a)
      | cons w ws =>
        rw [e] at ih
        rw [List.cons_append, words_cons h ih, words_cons h e]; rfl
theorem words_snoc (c : UInt8) (h : c ≠ 46) (w : Bs) : ∀ (l : Bs) (o : List Bs), words l = o ++ [w] → words (l ++ [c]) = o ++ [w ++ [c]]
  | [], o, e => by
    cases o with
    | nil =>
      simp [words] at e
      subst e
      exact words_cons (w := []) h rfl
    | cons x o => simp [words] at e
  | d :: l, o, e => by
    by_cases hd : d = 46
    · subst hd
      rw [words_dot] at e
      cases o with
      | nil =>
        simp at e
        exact absurd e.2 (words_ne l)
      | cons x o =>
        simp at e
        rw [List.cons_append, words_dot, words_snoc c h w l o e.2, e.1]; rfl
    · cases e2 : words l with
      | nil => exact absurd e2 (words_ne l)
      | cons v vs =>
        rw [words_cons hd e2] at e
        cases o with
        | nil =>
          simp at e
          obtain ⟨e3, e4⟩ := e
          subst e4
          have := words_snoc c h v l [] e2
          rw [List.cons_append, words_cons hd this, ← e3]; rfl
        | cons x o =>
          simp at e
          obtain ⟨e3, e4⟩ := e
          subst e4
          have := words_snoc c h w l (v :: o) e2
          rw [List.cons_append, words_cons hd this, ← e3]; rfl
theorem words_one : ∀ w : Bs, (∀ c ∈ w, c ≠ 46) → words w = [w]
  | [], _ => rfl
  | c :: w, h => words_cons (h c (by simp)) (words_one w (fun d hd => h d (by simp [hd])))
theorem words_nodot : ∀ l : Bs, ∀ w ∈ words l, ∀ c ∈ w, c ≠ 46
  | [] => by simp [words]
  | d :: l => by
    have ih := words_nodot l
    by_cases hd : d = 46
    · subst hd
      rw [words_dot]
      intro w hw
      simp at hw
      rcases hw with rfl | hw
      · simp
      · exact ih w hw
    · cases e : words l with
      | nil => exact absurd e (words_ne l)
      | cons v vs =>
        rw [words_cons hd e]
        rw [e] at ih
        intro w hw
        simp at hw
        rcases hw with rfl | hw
        · intro c hc
          simp at hc
          rcases hc with rfl | hc
          · exact hd
          · exact ih v (by simp) c hc
        · exact ih w (by simp [hw])

/-- Words, with dots between. -/
def dots : List Bs → Bs
  | [] => []
  | [w] => w
  | w :: ws => w ++ 46 :: dots ws
theorem dots_cons (w : Bs) {ws : List Bs} (h : ws ≠ []) : dots (w :: ws) = w ++ 46 :: dots ws := by
  cases ws with
  | nil => exact absurd rfl h
  | cons x y => rfl
theorem dots_words : ∀ l, dots (words l) = l
  | [] => rfl
  | c :: l => by
    have ih := dots_words l
    by_cases h : c = 46
    · subst h
      rw [words_dot, dots_cons _ (words_ne l), ih]; rfl
    · cases e : words l with
      | nil => exact absurd e (words_ne l)
      | cons v vs =>
        rw [words_cons h e]
        rw [e] at ih
        cases vs with
        | nil => show c :: v = c :: l; rw [← ih]; rfl
        | cons x y =>
          rw [dots_cons _ (by simp)] at ih ⊢
          rw [← ih]; rfl
theorem words_inj (a b : Bs) (h : words a = words b) : a = b := by rw [← dots_words a, h, dots_words b]
theorem words_dots : ∀ ws : List Bs, ws ≠ [] → (∀ w ∈ ws, ∀ c ∈ w, c ≠ 46) → words (dots ws) = ws
  | [], h, _ => absurd rfl h
  | [w], _, h => words_one w (h w (by simp))
  | w :: x :: ws, _, h => by
    rw [dots_cons _ (by simp), words_app, words_one w (h w (by simp)), words_dots (x :: ws) (by simp) (fun v hv => h v (by simp at hv ⊢; exact .inr hv))]; rfl
theorem dots_app (a : List Bs) (w : Bs) (h : a ≠ []) : dots (a ++ [w]) = dots a ++ 46 :: w := by
  induction a with
  | nil => exact absurd rfl h
  | cons x a ih =>
    cases a with
    | nil => rfl
    | cons y a =>
      have e1 : dots (x :: (y :: a ++ [w])) = x ++ 46 :: dots (y :: a ++ [w]) := dots_cons x (by simp)
      have e2 : dots (x :: y :: a) = x ++ 46 :: dots (y :: a) := dots_cons x (by simp)
      rw [List.cons_append, e1, ih (by simp), e2]; simp

/-- A letter, or -. -/
def isLet (c : UInt8) : Bool := (decide (97 ≤ (c.toNat : Int)) && decide ((c.toNat : Int) ≤ 122)) || (decide (65 ≤ (c.toNat : Int)) && decide ((c.toNat : Int) ≤ 90)) || decide ((c.toNat : Int) = 45)
def isWd (c : UInt8) : Bool := isDig c || isLet c
/-- Is a word of digits alone? -/
def digs (w : Bs) : Bool := !w.isEmpty && w.all isDig
/-- May one stand in a Pre? -/
def wordOk (w : Bs) : Bool := !w.isEmpty && !(digs w && decide (1 < w.length) && (w.head? == some 48)) && w.all isWd
def preOk (p : Bs) : Bool := decide (p.length ≤ 40) && (p.isEmpty || (words p).all wordOk)
def partOk (n : Int) : Bool := decide (0 ≤ n) && decide (n ≤ 999999)
def verOk (a b c : Int) (p : Bs) : Bool := partOk a && partOk b && partOk c && preOk p

/-- A version. -/
structure V where
  a : Int
  b : Int
  c : Int
  p : ByteArray
  deriving DecidableEq
def V.ok (v : V) : Bool := verOk v.a v.b v.c v.p.data.toList
def V.zero : V := ⟨0, 0, 0, ByteArray.empty⟩

/-- The order of two words. -/
def kind (w : Bs) : Int := if digs w = true then 0 else 1
def klen (w : Bs) : Int := if digs w = true then w.length else 0
def cmpW (x y : Bs) : Int := seq (compareInt (kind x) (kind y)) (seq (compareInt (klen x) (klen y)) (compareBytes x y))
/-- Of two Pres. -/
def none1 (p : Bs) : Int := if p = [] then 1 else 0
def cmpP (p q : Bs) : Int := seq (compareInt (none1 p) (none1 q)) (lex cmpW (words p) (words q))
/-- Of two versions. -/
def cmpV (v w : V) : Int := seq (compareInt v.a w.a) (seq (compareInt v.b w.b) (seq (compareInt v.c w.c) (cmpP v.p.data.toList w.p.data.toList)))

theorem ord_word : Ord cmpW := (ord_int.pair (ord_int.pair ord_bytes)).pull (fun w => (kind w, klen w, w)) (fun a b e => by injection e with _ e; injection e)
theorem ord_pre : Ord cmpP := (ord_int.pair ord_word.lex).pull (fun p => (none1 p, words p)) (fun a b e => by injection e with _ e; exact words_inj a b e)
theorem ord_ver : Ord cmpV := (ord_int.pair (ord_int.pair (ord_int.pair ord_pre))).pull (fun v : V => (v.a, v.b, v.c, v.p.data.toList)) (fun a b e => by
  injection e with e1 e; injection e with e2 e; injection e with e3 e4
  obtain ⟨a1, a2, a3, a4⟩ := a
  obtain ⟨b1, b2, b3, b4⟩ := b
  simp only at e1 e2 e3 e4
  subst e1 e2 e3
  rw [ba_ext e4])

/-- The greatest. -/
def maxF (m x : V) : V := if 0 < cmpV x m then x else m
def maxV : List V → V
  | [] => V.zero
  | v :: l => l.foldl maxF v

theorem foldl_max (l : List V) : ∀ m, (l.foldl maxF m = m ∨ l.foldl maxF m ∈ l) ∧ cmpV m (l.foldl maxF m) ≤ 0 ∧ ∀ x ∈ l, cmpV x (l.foldl maxF m) ≤ 0 := by
  induction l with
  | nil => intro m; exact ⟨.inl rfl, by rw [List.foldl_nil, ord_ver.refl]; omega, by simp⟩
  | cons y l ih =>
    intro m
    rw [List.foldl_cons]
    have hm : (maxF m y = m ∨ maxF m y = y) ∧ cmpV m (maxF m y) ≤ 0 ∧ cmpV y (maxF m y) ≤ 0 := by
      unfold maxF
      have := ord_ver.anti m y
      split
      · exact ⟨.inr rfl, by omega, by rw [ord_ver.refl]; omega⟩
      · exact ⟨.inl rfl, by rw [ord_ver.refl]; omega, by omega⟩
    obtain ⟨i1, i2, i3⟩ := ih (maxF m y)
    refine ⟨?_, ord_ver.le _ _ _ hm.2.1 i2, fun x hx => ?_⟩
    · rcases i1 with e | e
      · rcases hm.1 with k | k
        · exact .inl (by rw [e, k])
        · exact .inr (by rw [e, k]; simp)
      · exact .inr (by simp [e])
    · simp at hx
      rcases hx with rfl | hx
      · exact ord_ver.le _ _ _ hm.2.2 i2
      · exact i3 x hx
theorem maxV_mem (l : List V) (h : l ≠ []) : maxV l ∈ l := by
  cases l with
  | nil => exact absurd rfl h
  | cons v l =>
    rcases (foldl_max l v).1 with e | e
    · show l.foldl maxF v ∈ _; rw [e]; simp
    · show l.foldl maxF v ∈ _; simp [e]
theorem maxV_ge (l : List V) (x : V) (h : x ∈ l) : cmpV x (maxV l) ≤ 0 := by
  cases l with
  | nil => simp at h
  | cons v l =>
    simp at h
    rcases h with rfl | h
    · exact (foldl_max l x).2.1
    · exact (foldl_max l v).2.2 x h
/-- There is just one. -/
theorem maxV_unique (l : List V) (m : V) (h : m ∈ l) (hm : ∀ x ∈ l, cmpV x m ≤ 0) : maxV l = m := by
  have h1 := hm _ (maxV_mem l (fun e => by subst e; simp at h))
  have h2 := maxV_ge l m h
  have h3 := ord_ver.anti m (maxV l)
  exact (ord_ver.eq _ _).1 (by omega)
theorem maxV_perm (l k : List V) (h : l ≠ []) (hk : ∀ x, x ∈ l ↔ x ∈ k) : maxV l = maxV k := by
  have hn : k ≠ [] := fun e => by subst e; have := (hk _).1 (maxV_mem l h); simp at this
  refine maxV_unique l _ ((hk _).2 (maxV_mem k hn)) fun x hx => maxV_ge k x ((hk x).1 hx)
theorem maxV_app (l k : List V) (hl : l ≠ []) (hk : k ≠ []) : maxV (l ++ k) = maxV [maxV l, maxV k] := by
  have h1 := maxV_mem l hl
  have h2 := maxV_mem k hk
  have h3 := maxV_mem [maxV l, maxV k] (by simp)
  refine maxV_unique _ _ ?_ fun x hx => ?_
  · simp at h3 ⊢
    rcases h3 with e | e
    · exact .inl (by rw [e]; exact h1)
    · exact .inr (by rw [e]; exact h2)
  · simp at hx
    rcases hx with hx | hx
    · exact ord_ver.le _ _ _ (maxV_ge l x hx) (maxV_ge _ _ (by simp))
    · exact ord_ver.le _ _ _ (maxV_ge k x hx) (maxV_ge _ _ (by simp))

end Go.Vr
