/-
  Plain mathematics of versions: words, which may be, their order, the greatest.
-/
import Derived.Test.YtcoakjgeadkfoaaDoorM1
import Derived.Test.YtcoakjgeadkfoaaDoorM8
namespace Go.Vr
set_option linter.unusedVariables false
open Go.Lib Go.Tx

abbrev Bs := List UInt8

/-- Parted by dots. -/
def words : Bs → List Bs
  | [] => [[]]
  | c :: r => if c = 46 then [] :: words r else match words r with | [] => [[c]] | w :: ws => (c :: w) :: ws

theorem words_ne : ∀ l, words l ≠ []
  | [] => by simp [words]
  | c :: r => by
    unfold words
    split
    · simp
    · split <;> simp
theorem words_dot (r : Bs) : words (46 :: r) = [] :: words r := by rw [words, if_pos rfl]
theorem words_cons {c : UInt8} {r w : Bs} {ws : List Bs} (h : c ≠ 46) (e : words r = w :: ws) : words (c :: r) = (c :: w) :: ws := by
  rw [words, if_neg h, e]
theorem words_app (b : Bs) : ∀ a, words (a ++ 46 :: b) = words a ++ words b
  | [] => by simp [words]
  | c :: a => by
    have ih := words_app b a
    by_cases h : c = 46
    · subst h; rw [List.cons_append, words_dot, words_dot, ih]; rfl
    · cases e : words a with
      | nil => exact absurd e (words_ne a)
      | cons w ws =>
        rw [e] at ih
        rw [List.cons_append, words_cons h ih, words_cons h e]; rfl
theorem words_snoc (c : UInt8) (h : c ≠ 46) (w : Bs) : ∀ (l : Bs) (o : List Bs), words l = o ++ [w] → words (l ++ [c]) = o ++ [w ++ [c]]
  | [], o, e => by
    cases o with
    | nil =>
      simp [words] at e
      subst e
      exact words_cons (w := []) h rfl
    | cons x o => simp [words] at e
  | d :: l, o, e => by
    by_cases hd : d = 46
    · subst hd
      rw [words_dot] at e
      cases o with
      | nil =>
        simp at e
        exact absurd e.2 (words_ne l)
      | cons x o =>
        simp at e
        rw [List.cons_append, words_dot, words_snoc c h w l o e.2, e.1]; rfl
    · cases e2 : words l with
      | nil => exact absurd e2 (words_ne l)
      | cons v vs =>
        rw [words_cons hd e2] at e
        cases o with
        | nil =>
          simp at e
          obtain ⟨e3, e4⟩ := e
          subst e4
          have := words_snoc c h v l [] e2
          rw [List.cons_append, words_cons hd this, ← e3]; rfl
        | cons x o =>
          simp at e
          obtain ⟨e3, e4⟩ := e
          subst e4
          have := words_snoc c h w l (v :: o) e2
          rw [List.cons_append, words_cons hd this, ← e3]; rfl
theorem words_one : ∀ w : Bs, (∀ c ∈ w, c ≠ 46) → words w = [w]
  | [], _ => rfl
  | c :: w, h => words_cons (h c (by simp)) (words_one w (fun d hd => h d (by simp [hd])))
theorem words_nodot : ∀ l : Bs, ∀ w ∈ words l, ∀ c ∈ w, c ≠ 46
  | [] => by simp [words]
  | d :: l => by
    have ih := words_nodot l
    by_cases hd : d = 46
    · subst hd
      rw [words_dot]
      intro w hw
      simp at hw
      rcases hw with rfl | hw
      · simp
      · exact ih w hw
    · cases e : words l with
      | nil => exact absurd e (words_ne l)
      | cons v vs =>
        rw [words_cons hd e]
        rw [e] at ih
        intro w hw
        simp at hw
        rcases hw with rfl | hw
        · intro c hc
          simp at hc
          rcases hc with rfl | hc
          · exact hd
          · exact ih v (by simp) c hc
        · exact ih w (by simp [hw])

/-- Words, with dots between. -/
def dots : List Bs → Bs
  | [] => []
  | [w] => w
  | w :: ws => w ++ 46 :: dots ws
theorem dots_cons (w : Bs) {ws : List Bs} (h : ws ≠ []) : dots (w :: ws) = w ++ 46 :: dots ws := by
  cases ws with
  | nil => exact absurd rfl h
  | cons x y => rfl
theorem dots_words : ∀ l, dots (words l) = l
  | [] => rfl
  | c :: l => by
    have ih := dots_words l
    by_cases h : c = 46
    · subst h
      rw [words_dot, dots_cons _ (words_ne l), ih]; rfl
    · cases e : words l with
      | nil => exact absurd e (words_ne l)
      | cons v vs =>
        rw [words_cons h e]
        rw [e] at ih
        cases vs with
        | nil => show c :: v = c :: l; rw [← ih]; rfl
        | cons x y =>
          rw [dots_cons _ (by simp)] at ih ⊢
          rw [← ih]; rfl
theorem words_inj (a b : Bs) (h : words a = words b) : a = b := by rw [← dots_words a, h, dots_words b]
theorem words_dots : ∀ ws : List Bs, ws ≠ [] → (∀ w ∈ ws, ∀ c ∈ w, c ≠ 46) → words (dots ws) = ws
  | [], h, _ => absurd rfl h
  | [w], _, h => words_one w (h w (by simp))
  | w :: x :: ws, _, h => by
    rw [dots_cons _ (by simp), words_app, words_one w (h w (by simp)), words_dots (x :: ws) (by simp) (fun v hv => h v (by simp at hv ⊢; exact .inr hv))]; rfl
theorem dots_app (a : List Bs) (w : Bs) (h : a ≠ []) : dots (a ++ [w]) = dots a ++ 46 :: w := by
  induction a with
  | nil => exact absurd rfl h
  | cons x a ih =>
    cases a with
    | nil => rfl
    | cons y a =>
      have e1 : dots (x :: (y :: a ++ [w])) = x ++ 46 :: dots (y :: a ++ [w]) := dots_cons x (by simp)
      have e2 : dots (x :: y :: a) = x ++ 46 :: dots (y :: a) := dots_cons x (by simp)
      rw [List.cons_append, e1, ih (by simp), e2]; simp

/-- A letter, or -. -/
def isLet (c : UInt8) : Bool := (decide (97 ≤ (c.toNat : Int)) && decide ((c.toNat : Int) ≤ 122)) || (decide (65 ≤ (c.toNat : Int)) && decide ((c.toNat : Int) ≤ 90)) || decide ((c.toNat : Int) = 45)
def isWd (c : UInt8) : Bool := isDig c || isLet c
/-- Is a word of digits alone? -/
def digs (w : Bs) : Bool := !w.isEmpty && w.all isDig
/-- May one stand in a Pre? -/
def wordOk (w : Bs) : Bool := !w.isEmpty && !(digs w && decide (1 < w.length) && (w.head? == some 48)) && w.all isWd
def preOk (p : Bs) : Bool := decide (p.length ≤ 40) && (p.isEmpty || (words p).all wordOk)
def partOk (n : Int) : Bool := decide (0 ≤ n) && decide (n ≤ 999999)
def verOk (a b c : Int) (p : Bs) : Bool := partOk a && partOk b && partOk c && preOk p

/-- A version. -/
structure V where
  a : Int
  b : Int
  c : Int
  p : ByteArray
  deriving DecidableEq
def V.ok (v : V) : Bool := verOk v.a v.b v.c v.p.data.toList
def V.zero : V := ⟨0, 0, 0, ByteArray.empty⟩

/-- The order of two words. -/
def kind (w : Bs) : Int := if digs w = true then 0 else 1
def klen (w : Bs) : Int := if digs w = true then w.length else 0
def cmpW (x y : Bs) : Int := seq (compareInt (kind x) (kind y)) (seq (compareInt (klen x) (klen y)) (compareBytes x y))
/-- Of two Pres. -/
def none1 (p : Bs) : Int := if p = [] then 1 else 0
def cmpP (p q : Bs) : Int := seq (compareInt (none1 p) (none1 q)) (lex cmpW (words p) (words q))
/-- Of two versions. -/
def cmpV (v w : V) : Int := seq (compareInt v.a w.a) (seq (compareInt v.b w.b) (seq (compareInt v.c w.c) (cmpP v.p.data.toList w.p.data.toList)))

theorem ord_word : Ord cmpW := (ord_int.pair (ord_int.pair ord_bytes)).pull (fun w => (kind w, klen w, w)) (fun a b e => by injection e with _ e; injection e)
theorem ord_pre : Ord cmpP := (ord_int.pair ord_word.lex).pull (fun p => (none1 p, words p)) (fun a b e => by injection e with _ e; exact words_inj a b e)
theorem ord_ver : Ord cmpV := (ord_int.pair (ord_int.pair (ord_int.pair ord_pre))).pull (fun v : V => (v.a, v.b, v.c, v.p.data.toList)) (fun a b e => by
  injection e with e1 e; injection e with e2 e; injection e with e3 e4
  obtain ⟨a1, a2, a3, a4⟩ := a
  obtain ⟨b1, b2, b3, b4⟩ := b
  simp only at e1 e2 e3 e4
  subst e1 e2 e3
  rw [ba_ext e4])

/-- The greatest. -/
def maxF (m x : V) : V := if 0 < cmpV x m then x else m
def maxV : List V → V
  | [] => V.zero
  | v :: l => l.foldl maxF v

theorem foldl_max (l : List V) : ∀ m, (l.foldl maxF m = m ∨ l.foldl maxF m ∈ l) ∧ cmpV m (l.foldl maxF m) ≤ 0 ∧ ∀ x ∈ l, cmpV x (l.foldl maxF m) ≤ 0 := by
  induction l with
  | nil => intro m; exact ⟨.inl rfl, by rw [List.foldl_nil, ord_ver.refl]; omega, by simp⟩
  | cons y l ih =>
    intro m
    rw [List.foldl_cons]
    have hm : (maxF m y = m ∨ maxF m y = y) ∧ cmpV m (maxF m y) ≤ 0 ∧ cmpV y (maxF m y) ≤ 0 := by
      unfold maxF
      have := ord_ver.anti m y
      split
      · exact ⟨.inr rfl, by omega, by rw [ord_ver.refl]; omega⟩
      · exact ⟨.inl rfl, by rw [ord_ver.refl]; omega, by omega⟩
    obtain ⟨i1, i2, i3⟩ := ih (maxF m y)
    refine ⟨?_, ord_ver.le _ _ _ hm.2.1 i2, fun x hx => ?_⟩
    · rcases i1 with e | e
      · rcases hm.1 with k | k
        · exact .inl (by rw [e, k])
        · exact .inr (by rw [e, k]; simp)
      · exact .inr (by simp [e])
    · simp at hx
      rcases hx with rfl | hx
      · exact ord_ver.le _ _ _ hm.2.2 i2
      · exact i3 x hx
theorem maxV_mem (l : List V) (h : l ≠ []) : maxV l ∈ l := by
  cases l with
  | nil => exact absurd rfl h
  | cons v l =>
    rcases (foldl_max l v).1 with e | e
    · show l.foldl maxF v ∈ _; rw [e]; simp
    · show l.foldl maxF v ∈ _; simp [e]
theorem maxV_ge (l : List V) (x : V) (h : x ∈ l) : cmpV x (maxV l) ≤ 0 := by
  cases l with
  | nil => simp at h
  | cons v l =>
    simp at h
    rcases h with rfl | h
    · exact (foldl_max l x).2.1
    · exact (foldl_max l v).2.2 x h
/-- There is just one. -/
theorem maxV_unique (l : List V) (m : V) (h : m ∈ l) (hm : ∀ x ∈ l, cmpV x m ≤ 0) : maxV l = m := by
  have h1 := hm _ (maxV_mem l (fun e => by subst e; simp at h))
  have h2 := maxV_ge l m h
  have h3 := ord_ver.anti m (maxV l)
  exact (ord_ver.eq _ _).1 (by omega)
theorem maxV_perm (l k : List V) (h : l ≠ []) (hk : ∀ x, x ∈ l ↔ x ∈ k) : maxV l = maxV k := by
  have hn : k ≠ [] := fun e => by subst e; have := (hk _).1 (maxV_mem l h); simp at this
  refine maxV_unique l _ ((hk _).2 (maxV_mem k hn)) fun x hx => maxV_ge k x ((hk x).1 hx)
theorem maxV_app (l k : List V) (hl : l ≠ []) (hk : k ≠ []) : maxV (l ++ k) = maxV [maxV l, maxV k] := by
  have h1 := maxV_mem l hl
  have h2 := maxV_mem k hk
  have h3 := maxV_mem [maxV l, maxV k] (by simp)
  refine maxV_unique _ _ ?_ fun x hx => ?_
  · simp at h3 ⊢
    rcases h3 with e | e
    · exact .inl (by rw [e]; exact h1)
    · exact .inr (by rw [e]; exact h2)
  · simp at hx
    rcases hx with hx | hx
    · exact ord_ver.le _ _ _ (maxV_ge l x hx) (maxV_ge _ _ (by simp))
    · exact ord_ver.le _ _ _ (maxV_ge k x hx) (maxV_ge _ _ (by simp))

end Go.Vr
