/-
  The library's contracts in this text's words, and what of the world they lean on.
  What a card's row hands to a walk: the variables as laid, and the world's shape: both at once.
  Plain mathematics of spans: intervals between places of an order; which places are in a row of them; normed rows; that a normed row is told by its places; joining, leaving out.
-/
import Derived.Test.YthihnpjbdjmbhaaGreatDoorG01
import Derived.Test.YthihnpjbdjmbhaaGreatDoorG07
import Derived.WalkSmall
import Derived.Lib.AtoiErrMem
import Derived.Lib.AppendIntMem
import Derived.Test.YthihnpjbdjmbhaaGreatDoorRows
import Derived.HandedShaped
import Derived.ProofKit
import Derived.LaidMore
import Derived.Lay
import Derived.MakeChecks
import Derived.Lib.LaidTab
import Derived.Stop.LaidErr
import Derived.Stop.Joined
import Derived.Shelf.Vars
import Derived.Test.YthihnpjbdjmbhaaGreatDoorG02

namespace Go.Proofs.YthihnpjbdjmbhaaGreatDoor
set_option linter.unusedVariables false
open Go.RowKit Go.Vr Go.Sort Go.Tx Go.Lib

theorem hide {p : Prop} (h : p) : Hid p := h
/-- The library's own variables, as they were laid. -/
structure Env (w : World) : Prop where
  mx : ∃ m, w.cell? ⟨Tryz.lays145_ren.g 1, 0, none⟩ = some (.int .i64 m)
  tab : TabIs Tryz.prog w "internal/strconv.uint64pow10" .u64 pow10Tab
  syn : ∃ tp p, w.var? Tryz.prog "strconv.ErrSyntax" = some #[.iface tp p]
  rng : ∃ tp p, w.var? Tryz.prog "strconv.ErrRange" = some #[.iface tp p]

theorem var_lt {P : Program} {w : World} {n : String} {cs : Array Value} {g : Nat} (hg : P.globalNamed n = some g) (h : w.var? P n = some cs) : g < w.heap.size := by
  unfold World.var? at h
  simp only [hg, Option.bind_some] at h
  by_cases hlt : g < w.heap.size
  · exact hlt
  · rw [Array.getElem?_eq_none (by omega)] at h; simp at h
theorem var_later {w w' : World} {n : String} {cs : Array Value} {g : Nat} (hg : Tryz.prog.globalNamed n = some g) (hb : Below w.heap.size w w') (h : w.var? Tryz.prog n = some cs) : w'.var? Tryz.prog n = some cs :=
  var?_below hb hg (var_lt hg h) h
theorem Env.later {w w' : World} (h : Env w) (hb : Below w.heap.size w w') : Env w' := by
  obtain ⟨⟨m, h1⟩, h2, ⟨t3, p3, h3⟩, ⟨t4, p4, h4⟩⟩ := h
  exact ⟨⟨m, cellLater hb h1⟩, var_later Tryz.laysM171.m17 hb h2, ⟨t3, p3, var_later Tryz.laysC172.m15 hb h3⟩, ⟨t4, p4, var_later Tryz.laysC172.m16 hb h4⟩⟩

/-- strings.TrimPrefix. -/
theorem trimPrefix_any (s p : ByteArray) (w : World) :
    Calls Tryz.prog 123 #[.string s, .string p] w fun e w' => e = .returned (.string (str (trimPrefix s.data.toList p.data.toList))) ∧ w' = w := Any.strings_TrimPrefix Tryz.lays101 s p w
/-- strings.Compare. -/
theorem compare_any (a b : ByteArray) (w : World) :
    Calls Tryz.prog 112 #[.string a, .string b] w fun e w' => e = .returned (.int .i64 (compareBytes a.data.toList b.data.toList)) ∧ w' = w := Any.strings_Compare Tryz.lays106 a b w
/-- strings.IndexByte. -/
theorem indexByte_any (s : ByteArray) (c : Int) (w : World) :
    Calls Tryz.prog 120 #[.string s, .int .u8 c] w fun e w' => e = .returned (.int .i64 (indexByte s.data.toList c.toNat.toUInt8)) ∧ w' = w := Any.strings_IndexByte Tryz.lays137 s c w
/-- cmp.Compare at int. -/
theorem cmpInt_any (x y : Int) (w : World) :
    Calls Tryz.prog 83 #[.int .i64 x, .int .i64 y] w fun e w' => e = .returned (.int .i64 (compareInt x y)) ∧ w' = w := Any.cmp_Compare_int Tryz.lays122 x y w
/-- strings.Cut. -/
theorem cut_any (s sep : ByteArray) (w : World) (hs : s.size ≤ 100000) (he : Env w) :
    Calls Tryz.prog 122 #[.string s, .string sep] w fun e w' => e = .returned (.tuple #[.string (str (cut s.data.toList sep.data.toList).1), .string (str (cut s.data.toList sep.data.toList).2.1), .bool (cut s.data.toList sep.data.toList).2.2]) ∧ Below w.heap.size w w' := by
  obtain ⟨m, hm⟩ := he.mx
  refine (Any.strings_Cut Tryz.lays145 s sep m w (by omega) hm).mono ?_
  rintro e w' ⟨rfl, n, rfl⟩
  exact ⟨rfl, belDrewN w n⟩
/-- strings.Split at a dot: a new row of the words. -/
theorem split_any (s : ByteArray) (w : World) (hs : s.size ≤ 5000) (he : Env w) :
    Calls Tryz.prog 110 #[.string s, .string ⟨#[46]⟩] w fun e w' => ∃ v, e = .returned v ∧ w'.ownsRow w.heap.size 9 1 v (words s.data.toList).length ((words s.data.toList).map encStr) ∧ Below w.heap.size w w' := by
  obtain ⟨m, hm⟩ := he.mx
  have hw := split_words s.size s (Nat.le_refl _)
  have hl := splitB_all ⟨#[46]⟩ (by decide) 0 _ s rfl
  have hn : (words s.data.toList).length = countB s ⟨#[46]⟩ + 1 := by rw [← hw, List.length_map, hl]
  have hc : ((splitB ⟨#[46]⟩ 0 (countB s ⟨#[46]⟩) s).map Value.string) = (words s.data.toList).map encStr := by
    rw [← hw, List.map_map]
    refine List.map_congr_left fun x _ => ?_
    show Value.string x = Value.string (str x.data.toList)
    rw [str_of]
  have hcn := words_count s.data.toList
  rw [len_eq] at hcn
  refine (Any.strings_Split Tryz.lays146 (by kernel_rfl) s ⟨#[46]⟩ m w (by omega) hm (by decide)).mono ?_
  rintro e w' ⟨rfl, rfl⟩
  rw [hc, ← hn]
  refine ⟨_, rfl, ⟨by simp, .inr ⟨w.heap.size, _, _, rfl, Nat.le_refl _, heap_alloc_new w _, Nat.le_refl _, by unfold maxLen; omega, by simp, by simp; exact List.take_of_length_le (by simp)⟩⟩, (Below.refl _ _).alloc (Nat.le_refl _) _⟩
/-- strings.Join with dots. -/
theorem join_any (bk o c : Nat) (xs : List ByteArray) (w : World) (hcells : ∀ (j : Nat) x, xs[j]? = some x → w.cell? ⟨bk, o + j, none⟩ = some (.string x)) (hbk : bk < w.heap.size) (hN : xs.length ≤ 100) (hcap : xs.length ≤ c) (hlen : (join (xs.map (·.data.toList)) [46]).length ≤ 100000) :
    Calls Tryz.prog 30 #[.slice (some ⟨bk, o, none⟩) xs.length c, .string ⟨#[46]⟩] w fun e w' => e = .returned (.string (str (join (xs.map (·.data.toList)) [46]))) ∧ Below w.heap.size w w' :=
  Any.strings_Join Tryz.lays156 Tryz.extra156 bk o c xs ⟨#[46]⟩ w hcells hbk (by omega) hcap (Nat.le_trans hlen (by omega))
/-- strconv.Itoa. -/
theorem itoa_any (n : Int) (w : World) (h0 : -9223372036854775808 ≤ n) (h1 : n ≤ 9223372036854775807) (he : Env w) :
    Calls Tryz.prog 79 #[.int .i64 n] w fun e w' => e = .returned (.string (str (itoa n))) ∧ Below w.heap.size w w' := by
  refine (Any.strconv_Itoa Tryz.laysM171 n h0 h1 w he.tab).mono ?_
  rintro e w' ⟨rfl, k, os, rfl⟩
  exact ⟨rfl, below_grow _ w (Nat.le_refl _) k os⟩
/-- strconv.Atoi, its number. -/
theorem atoi_any (s : ByteArray) (w : World) (hs : s.size ≤ 100000) (he : Env w) :
    Calls Tryz.prog 145 #[.string s] w fun e w' => ∃ x, e = .returned (.tuple #[.int .i64 (num s.data.toList), x]) ∧ Below w.heap.size w w' := by
  cases h : atoiAll s.data.toList with
  | ok v =>
    have hn : num s.data.toList = v := by unfold num; rw [h]
    rw [hn]
    refine (Any.strconv_Atoi_ok Tryz.laysC172 s (by omega) v h w).mono ?_
    rintro e w' ⟨rfl, rfl | ⟨t, rfl⟩⟩
    · exact ⟨_, rfl, Below.refl _ _⟩
    · exact ⟨_, rfl, bytesWorld_below w _ t⟩
  | «syntax» =>
    have hn : num s.data.toList = 0 := by unfold num; rw [h]
    rw [hn]
    obtain ⟨tp, p, hv⟩ := he.syn
    refine (Any.strconv_Atoi_syntax_var Tryz.laysC172 s (by omega) h tp p w hv).mono ?_
    rintro e w' ⟨N, rfl, _, _, hb⟩
    exact ⟨_, rfl, hb⟩
  | range =>
    have hn : num s.data.toList = atoiSat s.data.toList := by unfold num; rw [h]
    rw [hn]
    obtain ⟨tp, p, hv⟩ := he.rng
    refine (Any.strconv_Atoi_range_var Tryz.laysC172 s (by omega) h tp p w hv).mono ?_
    rintro e w' ⟨N, rfl, _, _, hb⟩
    exact ⟨_, rfl, hb⟩

end Go.Proofs.YthihnpjbdjmbhaaGreatDoor

namespace Go.Proofs.YthihnpjbdjmbhaaGreatDoor
set_option linter.unusedVariables false
open Go.RowKit Go.Lib

/-- A contract gets the laid variables and the shape of the world. -/
theorem handed_laid_shaped {H : Type} {enc : TypeId × Value → H} {a : Assume} {C : Checked} {os : Os} {f : FuncId} {fn : Func} {s : ChangeSpec} {conds : List PathCond} {apart fresh handsOn again : Bool} {laid : List (String × DataW Unit)}
    (own : ownKnob C.prog.godebug = none) (started : os.Started) (noInit : C.prog.inits.idxOf? f = none) (hfn : C.prog.funcs[f]? = some fn)
    (witness : ∃ (w : World) (tape : Tape) (i : Input), w.os = os ∧ (w.forCall tape i).Shaped C.prog ∧ i.vars = [] ∧ Input.okWide C.prog (w.forCall tape i) .any w.heap.size f i ∧
      ((s.pre enc C.prog fn conds apart (w.forCall tape i).memory i.args ∧ laidMetH C.prog laid (w.forCall tape i).memory) ∧ sizedMet enc C.prog fn (OpenSpec.ofChange s) apart (w.forCall tape i).memory i.args) ∧ a.holds C.prog (lone (Frame.enter C.prog f i.args .normal) [] (w.forCall tape i)))
    (contract : ∀ (W : World) (base : Nat) (args : Array Value) (ds gs : List (DataW H)) (before : List MemPlace),
      (∀ (j : Nat) t v, fn.params[j]? = some t → args[j]? = some v → Value.okWide C.prog W .any base t v) →
      DataW.Whole enc C.prog fn.params.toList s.vars apart W args.toList ds gs before →
      (DataW.weightsEach C.prog (fn.params.toList ++ s.plain.varTypes C.prog) (ds ++ gs)).all (· ≤ reachBytes) = true → laidMetH C.prog laid W → W.ShapedOpen C.prog →
      Calls C.prog f args W fun e W' => ∃ v, e = .returned v ∧ s.post enc C.prog fn apart fresh handsOn again W args v W') :
    ReturnsInHanded a C os f .any (fun w args => (s.pre enc C.prog fn conds apart w args ∧ laidMetH C.prog laid w) ∧ sizedMet enc C.prog fn (OpenSpec.ofChange s) apart w args) (s.post enc C.prog fn apart fresh handsOn again) := by
  refine returnsInHanded_of_calls own started noInit witness ?_
  intro w tape i _ hsh _ hok hpre hholds
  obtain ⟨_, _, _, fn', hfn', _, _, _, _, hval⟩ := hok
  have e : fn' = fn := Option.some.inj (hfn'.symm.trans hfn)
  subst e
  obtain ⟨⟨⟨ds, gs, before, hw, hc⟩, hx⟩, hz⟩ := hpre
  have hw' := DataW.Whole.of_heap (w' := w.forCall tape i) (by rfl) hw
  refine (contract (w.forCall tape i) w.heap.size i.args ds gs before hval hw' (hz.weights hw) (hx.of_heap (by rfl)) hsh).mono fun e W' ⟨v, he, hp⟩ => ?_
  subst he
  exact ChangeSpec.post_blind hp

theorem star : "*" ++ "errors.errorString" = "*errors.errorString" := by decide
theorem errRow (u : TypeId) (h : Tryz.prog.typeName? 3 u = some "*errors.errorString") : u = 197 :=
  typeName_ptr_named (nm := "errors.errorString") (by rw [star]; kernel_rfl) (by kernel_rfl) (by decide) u (by rw [star]; exact h)

set_option maxRecDepth 100000 in
theorem env_of {W : World} (h : laidMetH Tryz.prog Rows.spanParsesRow.laid W) (hs : W.ShapedOpen Tryz.prog) : Env W := by
  rw [MakeChecks.laidMetH_plain _ _ _ (by kernel_rfl)] at h
  have h3 := h.tail.tail
  have h5 := h3.tail.tail
  have h6 := h5.tail
  refine ⟨?_, ?_, ?_, ?_⟩
  · exact cell_of_shapedOpen_int (t := 3) (zero := #[.int .i64 0]) hs (of_decide_eq_true (by kernel_rfl)) (by kernel_rfl) rfl (by kernel_rfl) (by kernel_rfl) Tryz.underlying3
  · exact tabIs_of_head (g := 1) (k := .u64) (zs := pow10Tab) (by kernel_rfl) (by kernel_rfl) Tryz.underlying172 Tryz.underlying125 (by kernel_rfl) (by kernel_rfl) h3
  · obtain ⟨a, _, e, _⟩ := laid_sentinel (g := 2) h6 (by kernel_rfl) (by kernel_rfl) Tryz.underlying92 errRow Tryz.underlying197 Tryz.underlying199 rfl rfl Tryz.underlying9 (by kernel_rfl) (by kernel_rfl)
    exact ⟨_, _, e⟩
  · obtain ⟨a, _, e, _⟩ := laid_sentinel (g := 3) h5 (by kernel_rfl) (by kernel_rfl) Tryz.underlying92 errRow Tryz.underlying197 Tryz.underlying199 rfl rfl Tryz.underlying9 (by kernel_rfl) (by kernel_rfl)
    exact ⟨_, _, e⟩

end Go.Proofs.YthihnpjbdjmbhaaGreatDoor

namespace Go.Sp
set_option linter.unusedVariables false
open Go.Vr

section
variable {K : Type} {cmp : K → K → Int}

/-- Which places are in a row. -/
def In (cmp : K → K → Int) (l : List (K × K)) (x : K) : Prop := ∃ s ∈ l, cmp s.1 x ≤ 0 ∧ cmp x s.2 < 0
theorem in_nil (x : K) : ¬ In cmp [] x := by rintro ⟨s, h, _⟩; simp at h
theorem in_cons (s : K × K) (l : List (K × K)) (x : K) : In cmp (s :: l) x ↔ (cmp s.1 x ≤ 0 ∧ cmp x s.2 < 0) ∨ In cmp l x := by
  constructor
  · rintro ⟨t, ht, h⟩
    rcases List.mem_cons.1 ht with rfl | ht
    · exact .inl h
    · exact .inr ⟨t, ht, h⟩
  · rintro (h | ⟨t, ht, h⟩)
    · exact ⟨s, by simp, h⟩
    · exact ⟨t, by simp [ht], h⟩
theorem in_app (a b : List (K × K)) (x : K) : In cmp (a ++ b) x ↔ In cmp a x ∨ In cmp b x := by
  constructor
  · rintro ⟨t, ht, h⟩
    rcases List.mem_append.1 ht with ht | ht
    · exact .inl ⟨t, ht, h⟩
    · exact .inr ⟨t, ht, h⟩
  · rintro (⟨t, ht, h⟩ | ⟨t, ht, h⟩)
    · exact ⟨t, by simp [ht], h⟩
    · exact ⟨t, by simp [ht], h⟩
theorem in_perm {a b : List (K × K)} (h : ∀ s, s ∈ a ↔ s ∈ b) (x : K) : In cmp a x ↔ In cmp b x :=
  ⟨fun ⟨t, ht, k⟩ => ⟨t, (h t).1 ht, k⟩, fun ⟨t, ht, k⟩ => ⟨t, (h t).2 ht, k⟩⟩

/-- Normed: none empty, rising, apart. -/
def Nm (cmp : K → K → Int) : List (K × K) → Prop
  | [] => True
  | s :: l => cmp s.1 s.2 < 0 ∧ (∀ t ∈ l, cmp s.2 t.1 < 0) ∧ Nm cmp l

theorem Nm.ne {l : List (K × K)} (h : Nm cmp l) : ∀ s ∈ l, cmp s.1 s.2 < 0 := by
  induction l with
  | nil => simp
  | cons a l ih =>
    intro s hs
    rcases List.mem_cons.1 hs with rfl | hs
    · exact h.1
    · exact ih h.2.2 s hs

theorem lt_ne (o : Ord cmp) (a : K) : ¬ cmp a a < 0 := by rw [o.refl]; omega
theorem not_lt (o : Ord cmp) {a b : K} (h : ¬ cmp a b < 0) : cmp b a ≤ 0 := by have := o.anti a b; omega
theorem not_le (o : Ord cmp) {a b : K} (h : ¬ cmp a b ≤ 0) : cmp b a < 0 := by have := o.anti a b; omega
theorem le_anti (o : Ord cmp) {a b : K} (h : cmp a b ≤ 0) (k : cmp b a ≤ 0) : a = b := (o.eq a b).1 (by have := o.anti a b; omega)
theorem lt_not (o : Ord cmp) {a b : K} (h : cmp a b < 0) : ¬ cmp b a ≤ 0 := by have := o.anti a b; omega
theorem le_not (o : Ord cmp) {a b : K} (h : cmp a b ≤ 0) : ¬ cmp b a < 0 := by have := o.anti a b; omega
theorem lt_trans (o : Ord cmp) {a b c : K} (h : cmp a b < 0) (k : cmp b c < 0) : cmp a c < 0 := o.lt_le a b c h (by omega)

/-- Behind the first of a normed row nothing of the rest begins sooner. -/
theorem Nm.low (o : Ord cmp) {s : K × K} {l : List (K × K)} (h : Nm cmp (s :: l)) {x : K} (k : In cmp l x) : cmp s.2 x < 0 := by
  obtain ⟨t, ht, h1, _⟩ := k
  exact o.lt_le _ _ _ (h.2.1 t ht) h1
theorem Nm.first (o : Ord cmp) {s : K × K} {l : List (K × K)} (h : Nm cmp (s :: l)) {x : K} (k : In cmp (s :: l) x) : cmp s.1 x ≤ 0 := by
  rcases (in_cons s l x).1 k with k | k
  · exact k.1
  · have := lt_trans o h.1 (h.low o k); omega

theorem unique (o : Ord cmp) : ∀ (l m : List (K × K)), Nm cmp l → Nm cmp m → (∀ x, In cmp l x ↔ In cmp m x) → l = m
  | [], [], _, _, _ => rfl
  | [], t :: m, _, hm, h => absurd ((h t.1).2 ((in_cons _ _ _).2 (.inl ⟨by rw [o.refl]; omega, hm.1⟩))) (in_nil _)
  | s :: l, [], hl, _, h => absurd ((h s.1).1 ((in_cons _ _ _).2 (.inl ⟨by rw [o.refl]; omega, hl.1⟩))) (in_nil _)
  | s :: l, t :: m, hl, hm, h => by
    have a1 : In cmp (s :: l) s.1 := (in_cons _ _ _).2 (.inl ⟨by rw [o.refl]; omega, hl.1⟩)
    have a2 : In cmp (t :: m) t.1 := (in_cons _ _ _).2 (.inl ⟨by rw [o.refl]; omega, hm.1⟩)
    have e1 : s.1 = t.1 := le_anti o (hl.first o ((h _).2 a2)) (hm.first o ((h _).1 a1))
    have key : ∀ (s t : K × K) (l m : List (K × K)), Nm cmp (s :: l) → Nm cmp (t :: m) → s.1 = t.1 → (∀ x, In cmp (t :: m) x → In cmp (s :: l) x) → cmp t.2 s.2 ≤ 0 := by
      intro s t l m hl hm e h
      by_cases k : cmp s.2 t.2 < 0
      · have k1 : In cmp (t :: m) s.2 := (in_cons _ _ _).2 (.inl ⟨by rw [← e]; have := hl.1; omega, k⟩)
        rcases (in_cons _ _ _).1 (h _ k1) with k2 | k2
        · exact absurd k2.2 (lt_ne o _)
        · exact absurd (hl.low o k2) (lt_ne o _)
      · exact not_lt o k
    have e2 : s.2 = t.2 := le_anti o (key t s m l hm hl e1.symm (fun x => (h x).1)) (key s t l m hl hm e1 (fun x => (h x).2))
    have e3 : s = t := Prod.ext e1 e2
    subst e3
    congr 1
    refine unique o l m hl.2.2 hm.2.2 fun x => ⟨fun k => ?_, fun k => ?_⟩
    · rcases (in_cons _ _ _).1 ((h x).1 ((in_cons _ _ _).2 (.inr k))) with k2 | k2
      · exact absurd k2.2 (by have := lt_not o (hl.low o k); omega)
      · exact k2
    · rcases (in_cons _ _ _).1 ((h x).2 ((in_cons _ _ _).2 (.inr k))) with k2 | k2
      · exact absurd k2.2 (by have := lt_not o (hm.low o k); omega)
      · exact k2

/-- What lies between two places, unless that is empty. -/
def only (cmp : K → K → Int) (a b : K) : List (K × K) := if cmp a b < 0 then [(a, b)] else []
theorem in_only (o : Ord cmp) (a b x : K) : In cmp (only cmp a b) x ↔ cmp a x ≤ 0 ∧ cmp x b < 0 := by
  unfold only
  split
  · rw [in_cons]; exact ⟨fun h => h.resolve_right (in_nil x), .inl⟩
  · rename_i h
    exact ⟨fun k => absurd k (in_nil x), fun k => absurd (o.le_lt _ _ _ k.1 k.2) h⟩
theorem only_mem {a b : K} {s : K × K} (h : s ∈ only cmp a b) : s = (a, b) ∧ cmp a b < 0 := by
  unfold only at h
  split at h
  · simp at h; exact ⟨h, by assumption⟩
  · simp at h
theorem nm_only (a b : K) : Nm cmp (only cmp a b) := by
  unfold only
  split
  · exact ⟨by assumption, by simp, trivial⟩
  · exact trivial
theorem nm_cons_only (o : Ord cmp) {a b : K} {l : List (K × K)} (hl : Nm cmp l) (h : ∀ t ∈ l, cmp b t.1 < 0) : Nm cmp (only cmp a b ++ l) := by
  unfold only
  split
  · exact ⟨by assumption, h, hl⟩
  · exact hl

/-- The later of two places. -/
def later (cmp : K → K → Int) (a b : K) : K := if cmp a b < 0 then b else a
theorem later_lt (o : Ord cmp) (a b x : K) : cmp x (later cmp a b) < 0 ↔ cmp x a < 0 ∨ cmp x b < 0 := by
  unfold later
  split
  · rename_i h
    exact ⟨.inr, fun k => k.elim (fun k => lt_trans o k h) id⟩
  · rename_i h
    exact ⟨.inl, fun k => k.elim id (fun k => o.lt_le _ _ _ k (not_lt o h))⟩

/-- Spans that begin later and later, joined: `from`, `to` is the one in hand. -/
def merge (cmp : K → K → Int) (a b : K) : List (K × K) → List (K × K)
  | [] => only cmp a b
  | s :: r => if cmp b s.1 < 0 then only cmp a b ++ merge cmp s.1 (later cmp b s.2) r else merge cmp a (later cmp b s.2) r

def Rise (cmp : K → K → Int) : List (K × K) → Prop
  | [] => True
  | s :: l => (∀ t ∈ l, cmp s.1 t.1 ≤ 0) ∧ Rise cmp l

theorem merge_low (o : Ord cmp) : ∀ (l : List (K × K)) (a b : K), Rise cmp l → (∀ s ∈ l, cmp a s.1 ≤ 0) → ∀ t ∈ merge cmp a b l, cmp a t.1 ≤ 0
  | [], a, b, _, _, t, ht => by obtain ⟨rfl, _⟩ := only_mem ht; show cmp a a ≤ 0; rw [o.refl]; omega
  | s :: l, a, b, hr, ha, t, ht => by
    unfold merge at ht
    split at ht
    · rcases List.mem_append.1 ht with ht | ht
      · obtain ⟨rfl, _⟩ := only_mem ht; show cmp a a ≤ 0; rw [o.refl]; omega
      · exact o.le _ _ _ (ha s (by simp)) (merge_low o l s.1 _ hr.2 hr.1 t ht)
    · exact merge_low o l a _ hr.2 (fun u hu => ha u (by simp [hu])) t ht

theorem merge_nm (o : Ord cmp) : ∀ (l : List (K × K)) (a b : K), Rise cmp l → (∀ s ∈ l, cmp a s.1 ≤ 0) → Nm cmp (merge cmp a b l)
  | [], a, b, _, _ => nm_only a b
  | s :: l, a, b, hr, ha => by
    unfold merge
    split
    · rename_i h
      exact nm_cons_only o (merge_nm o l s.1 _ hr.2 hr.1) (fun t ht => o.lt_le _ _ _ h (merge_low o l s.1 _ hr.2 hr.1 t ht))
    · exact merge_nm o l a _ hr.2 (fun u hu => ha u (by simp [hu]))

theorem merge_in (o : Ord cmp) : ∀ (l : List (K × K)) (a b : K), Rise cmp l → (∀ s ∈ l, cmp a s.1 ≤ 0) → ∀ x, In cmp (merge cmp a b l) x ↔ (cmp a x ≤ 0 ∧ cmp x b < 0) ∨ In cmp l x
  | [], a, b, _, _, x => by
    unfold merge
    rw [in_only o]
    exact ⟨.inl, fun h => h.resolve_right (in_nil x)⟩
  | s :: l, a, b, hr, ha, x => by
    have hs := ha s (by simp)
    unfold merge
    rw [in_cons]
    split
    · rename_i h
      rw [in_app, in_only o, merge_in o l s.1 _ hr.2 hr.1, later_lt o]
      constructor
      · rintro (k | ⟨k1, k2 | k2⟩ | k)
        · exact .inl k
        · exact absurd k1 (lt_not o (lt_trans o k2 h))
        · exact .inr (.inl ⟨k1, k2⟩)
        · exact .inr (.inr k)
      · rintro (k | k | k)
        · exact .inl k
        · exact .inr (.inl ⟨k.1, .inr k.2⟩)
        · exact .inr (.inr k)
    · rename_i h
      rw [merge_in o l a _ hr.2 (fun u hu => ha u (by simp [hu])), later_lt o]
      constructor
      · rintro (⟨k1, k2 | k2⟩ | k)
        · exact .inl ⟨k1, k2⟩
        · by_cases k3 : cmp s.1 x ≤ 0
          · exact .inr (.inl ⟨k3, k2⟩)
          · exact .inl ⟨k1, o.lt_le _ _ _ (not_le o k3) (not_lt o h)⟩
        · exact .inr (.inr k)
      · rintro (k | k | k)
        · exact .inl ⟨k.1, .inl k.2⟩
        · exact .inl ⟨o.le _ _ _ hs k.1, .inr k.2⟩
        · exact .inr k

/-- All of a row that rises, joined. -/
def join (cmp : K → K → Int) : List (K × K) → List (K × K)
  | [] => []
  | s :: l => merge cmp s.1 s.2 (s :: l)
theorem rise_head (o : Ord cmp) {s : K × K} {l : List (K × K)} (h : Rise cmp (s :: l)) : ∀ u ∈ s :: l, cmp s.1 u.1 ≤ 0 := by
  intro u hu
  rcases List.mem_cons.1 hu with rfl | hu
  · rw [o.refl]; omega
  · exact h.1 u hu
theorem join_nm (o : Ord cmp) {l : List (K × K)} (h : Rise cmp l) : Nm cmp (join cmp l) := by
  cases l with
  | nil => exact trivial
  | cons s l => exact merge_nm o _ _ _ h (rise_head o h)
theorem join_in (o : Ord cmp) {l : List (K × K)} (h : Rise cmp l) (x : K) : In cmp (join cmp l) x ↔ In cmp l x := by
  cases l with
  | nil => exact Iff.rfl
  | cons s l =>
    show In cmp (merge cmp s.1 s.2 (s :: l)) x ↔ _
    rw [merge_in o _ _ _ h (rise_head o h), in_cons]
    exact ⟨fun k => k.elim .inl id, .inr⟩

/-- What is left out, from a place on, up to the end. -/
def gaps (cmp : K → K → Int) (e : K) (a : K) : List (K × K) → List (K × K)
  | [] => only cmp a e
  | s :: r => only cmp a s.1 ++ gaps cmp e s.2 r
theorem gaps_low (o : Ord cmp) (e : K) : ∀ (l : List (K × K)) (a : K), Nm cmp l → (∀ s ∈ l, cmp a s.1 ≤ 0) → ∀ t ∈ gaps cmp e a l, cmp a t.1 ≤ 0
  | [], a, _, _, t, ht => by obtain ⟨rfl, _⟩ := only_mem ht; show cmp a a ≤ 0; rw [o.refl]; omega
  | s :: l, a, hr, ha, t, ht => by
    unfold gaps at ht
    rcases List.mem_append.1 ht with ht | ht
    · obtain ⟨rfl, _⟩ := only_mem ht; show cmp a a ≤ 0; rw [o.refl]; omega
    · have h1 := gaps_low o e l s.2 hr.2.2 (fun u hu => by have := hr.2.1 u hu; omega) t ht
      exact o.le _ _ _ (ha s (by simp)) (o.le _ _ _ (by have := hr.1; omega) h1)
theorem gaps_nm (o : Ord cmp) (e : K) : ∀ (l : List (K × K)) (a : K), Nm cmp l → Nm cmp (gaps cmp e a l)
  | [], a, _ => nm_only a e
  | s :: l, a, hr => by
    unfold gaps
    have hl : ∀ u ∈ l, cmp s.2 u.1 ≤ 0 := fun u hu => by have := hr.2.1 u hu; omega
    exact nm_cons_only o (gaps_nm o e l s.2 hr.2.2) (fun t ht => o.lt_le _ _ _ hr.1 (gaps_low o e l s.2 hr.2.2 hl t ht))
theorem gaps_in (o : Ord cmp) (e : K) : ∀ (l : List (K × K)) (a : K), Nm cmp l → (∀ s ∈ l, cmp a s.1 ≤ 0) → (∀ s ∈ l, cmp s.2 e ≤ 0) → ∀ x, In cmp (gaps cmp e a l) x ↔ cmp a x ≤ 0 ∧ cmp x e < 0 ∧ ¬ In cmp l x
  | [], a, _, _, _, x => by
    unfold gaps
    rw [in_only o]
    exact ⟨fun h => ⟨h.1, h.2, in_nil x⟩, fun h => ⟨h.1, h.2.1⟩⟩
  | s :: l, a, hr, ha, he, x => by
    have hl : ∀ u ∈ l, cmp s.2 u.1 ≤ 0 := fun u hu => by have := hr.2.1 u hu; omega
    have hs := ha s (by simp)
    have hse := he s (by simp)
    unfold gaps
    rw [in_app, in_only o, gaps_in o e l s.2 hr.2.2 hl (fun u hu => he u (by simp [hu])), in_cons]
    constructor
    · rintro (⟨k1, k2⟩ | ⟨k1, k2, k3⟩)
      · refine ⟨k1, o.lt_le _ _ _ k2 (o.le _ _ _ (by have := hr.1; omega) hse), fun k => ?_⟩
        rcases k with k | k
        · exact lt_not o k2 k.1
        · exact lt_not o (lt_trans o k2 hr.1) (by have := hr.low o k; omega)
      · refine ⟨o.le _ _ _ hs (o.le _ _ _ (by have := hr.1; omega) k1), k2, fun k => ?_⟩
        rcases k with k | k
        · exact le_not o k1 k.2
        · exact k3 k
    · rintro ⟨k1, k2, k3⟩
      by_cases h1 : cmp x s.1 < 0
      · exact .inl ⟨k1, h1⟩
      · have h2 := not_lt o h1
        have h3 : cmp s.2 x ≤ 0 := not_lt o (fun h => k3 (.inl ⟨h2, h⟩))
        exact .inr ⟨h3, k2, fun k => k3 (.inr k)⟩
end
end Go.Sp
