/-
  The library's contracts in this text's words, and what of the world they lean on.
-/
import Derived.Test.YtninheehoabbbaaGreatDoorShelf3
import Derived.Test.YtninheehoabbbaaGreatDoorShelf4
import Derived.Test.YtninheehoabbbaaGreatDoorV7
import Derived.WalkSmall
import Derived.Lib.AtoiErrMem
import Derived.Lib.AppendIntMem
namespace Go.Proofs.YtninheehoabbbaaGreatDoor
set_option linter.unusedVariables false
open Go.RowKit Go.Vr Go.Sort Go.Tx Go.Lib

theorem hide {p : Prop} (h : p) : Hid p := h
/-- The library's own variables, as they were laid. -/
structure Env (w : World) : Prop where
  mx : ∃ m, w.cell? ⟨Tryz.lays145_ren.g 1, 0, none⟩ = some (.int .i64 m)
  tab : TabIs Tryz.prog w "internal/strconv.uint64pow10" .u64 pow10Tab
  syn : ∃ tp p, w.var? Tryz.prog "strconv.ErrSyntax" = some #[.iface tp p]
  rng : ∃ tp p, w.var? Tryz.prog "strconv.ErrRange" = some #[.iface tp p]

theorem var_lt {P : Program} {w : World} {n : String} {cs : Array Value} {g : Nat} (hg : P.globalNamed n = some g) (h : w.var? P n = some cs) : g < w.heap.size := by
  unfold World.var? at h
  simp only [hg, Option.bind_some] at h
  by_cases hlt : g < w.heap.size
  · exact hlt
  · rw [Array.getElem?_eq_none (by omega)] at h; simp at h
theorem var_later {w w' : World} {n : String} {cs : Array Value} {g : Nat} (hg : Tryz.prog.globalNamed n = some g) (hb : Below w.heap.size w w') (h : w.var? Tryz.prog n = some cs) : w'.var? Tryz.prog n = some cs :=
  var?_below hb hg (var_lt hg h) h
theorem Env.later {w w' : World} (h : Env w) (hb : Below w.heap.size w w') : Env w' := by
  obtain ⟨⟨m, h1⟩, h2, ⟨t3, p3, h3⟩, ⟨t4, p4, h4⟩⟩ := h
  exact ⟨⟨m, cellLater hb h1⟩, var_later Tryz.laysM171.m17 hb h2, ⟨t3, p3, var_later Tryz.laysC172.m15 hb h3⟩, ⟨t4, p4, var_later Tryz.laysC172.m16 hb h4⟩⟩

/-- strings.TrimPrefix. -/
theorem trimPrefix_any (s p : ByteArray) (w : World) :
    Calls Tryz.prog 123 #[.string s, .string p] w fun e w' => e = .returned (.string (str (trimPrefix s.data.toList p.data.toList))) ∧ w' = w := Any.strings_TrimPrefix Tryz.lays101 s p w
/-- strings.Compare. -/
theorem compare_any (a b : ByteArray) (w : World) :
    Calls Tryz.prog 112 #[.string a, .string b] w fun e w' => e = .returned (.int .i64 (compareBytes a.data.toList b.data.toList)) ∧ w' = w := Any.strings_Compare Tryz.lays106 a b w
/-- strings.IndexByte. -/
theorem indexByte_any (s : ByteArray) (c : Int) (w : World) :
    Calls Tryz.prog 120 #[.string s, .int .u8 c] w fun e w' => e = .returned (.int .i64 (indexByte s.data.toList c.toNat.toUInt8)) ∧ w' = w := Any.strings_IndexByte Tryz.lays137 s c w
/-- cmp.Compare at int. -/
theorem cmpInt_any (x y : Int) (w : World) :
    Calls Tryz.prog 83 #[.int .i64 x, .int .i64 y] w fun e w' => e = .returned (.int .i64 (compareInt x y)) ∧ w' = w := Any.cmp_Compare_int Tryz.lays122 x y w
/-- strings.Cut. -/
theorem cut_any (s sep : ByteArray) (w : World) (hs : s.size ≤ 100000) (he : Env w) :
    Calls Tryz.prog 122 #[.string s, .string sep] w fun e w' => e = .returned (.tuple #[.string (str (cut s.data.toList sep.data.toList).1), .string (str (cut s.data.toList sep.data.toList).2.1), .bool (cut s.data.toList sep.data.toList).2.2]) ∧ Below w.heap.size w w' := by
  obtain ⟨m, hm⟩ := he.mx
  refine (Any.strings_Cut Tryz.lays145 s sep m w (by omega) hm).mono ?_
  rintro e w' ⟨rfl, n, rfl⟩
  exact ⟨rfl, belDrewN w n⟩
/-- strings.Split at a dot: a new row of the words. -/
theorem split_any (s : ByteArray) (w : World) (hs : s.size ≤ 5000) (he : Env w) :
    Calls Tryz.prog 110 #[.string s, .string ⟨#[46]⟩] w fun e w' => ∃ v, e = .returned v ∧ w'.ownsRow w.heap.size 9 1 v (words s.data.toList).length ((words s.data.toList).map encStr) ∧ Below w.heap.size w w' := by
  obtain ⟨m, hm⟩ := he.mx
  have hw := split_words s.size s (Nat.le_refl _)
  have hl := splitB_all ⟨#[46]⟩ (by decide) 0 _ s rfl
  have hn : (words s.data.toList).length = countB s ⟨#[46]⟩ + 1 := by rw [← hw, List.length_map, hl]
  have hc : ((splitB ⟨#[46]⟩ 0 (countB s ⟨#[46]⟩) s).map Value.string) = (words s.data.toList).map encStr := by
    rw [← hw, List.map_map]
    refine List.map_congr_left fun x _ => ?_
    show Value.string x = Value.string (str x.data.toList)
    rw [str_of]
  have hcn := words_count s.data.toList
  rw [len_eq] at hcn
  refine (Any.strings_Split Tryz.lays146 (by kernel_rfl) s ⟨#[46]⟩ m w (by omega) hm (by decide)).mono ?_
  rintro e w' ⟨rfl, rfl⟩
  rw [hc, ← hn]
  refine ⟨_, rfl, ⟨by simp, .inr ⟨w.heap.size, _, _, rfl, Nat.le_refl _, heap_alloc_new w _, Nat.le_refl _, by unfold maxLen; omega, by simp, by simp; exact List.take_of_length_le (by simp)⟩⟩, (Below.refl _ _).alloc (Nat.le_refl _) _⟩
/-- strings.Join with dots. -/
theorem join_any (bk o c : Nat) (xs : List ByteArray) (w : World) (hcells : ∀ (j : Nat) x, xs[j]? = some x → w.cell? ⟨bk, o + j, none⟩ = some (.string x)) (hbk : bk < w.heap.size) (hN : xs.length ≤ 100) (hcap : xs.length ≤ c) (hlen : (join (xs.map (·.data.toList)) [46]).length ≤ 100000) :
    Calls Tryz.prog 30 #[.slice (some ⟨bk, o, none⟩) xs.length c, .string ⟨#[46]⟩] w fun e w' => e = .returned (.string (str (join (xs.map (·.data.toList)) [46]))) ∧ Below w.heap.size w w' :=
  Any.strings_Join Tryz.lays156 Tryz.extra156 bk o c xs ⟨#[46]⟩ w hcells hbk (by omega) hcap (Nat.le_trans hlen (by omega))
/-- strconv.Itoa. -/
theorem itoa_any (n : Int) (w : World) (h0 : -9223372036854775808 ≤ n) (h1 : n ≤ 9223372036854775807) (he : Env w) :
    Calls Tryz.prog 79 #[.int .i64 n] w fun e w' => e = .returned (.string (str (itoa n))) ∧ Below w.heap.size w w' := by
  refine (Any.strconv_Itoa Tryz.laysM171 n h0 h1 w he.tab).mono ?_
  rintro e w' ⟨rfl, k, os, rfl⟩
  exact ⟨rfl, below_grow _ w (Nat.le_refl _) k os⟩
/-- strconv.Atoi, its number. -/
theorem atoi_any (s : ByteArray) (w : World) (hs : s.size ≤ 100000) (he : Env w) :
    Calls Tryz.prog 145 #[.string s] w fun e w' => ∃ x, e = .returned (.tuple #[.int .i64 (num s.data.toList), x]) ∧ Below w.heap.size w w' := by
  cases h : atoiAll s.data.toList with
  | ok v =>
    have hn : num s.data.toList = v := by unfold num; rw [h]
    rw [hn]
    refine (Any.strconv_Atoi_ok Tryz.laysC172 s (by omega) v h w).mono ?_
    rintro e w' ⟨rfl, rfl | ⟨t, rfl⟩⟩
    · exact ⟨_, rfl, Below.refl _ _⟩
    · exact ⟨_, rfl, bytesWorld_below w _ t⟩
  | «syntax» =>
    have hn : num s.data.toList = 0 := by unfold num; rw [h]
    rw [hn]
    obtain ⟨tp, p, hv⟩ := he.syn
    refine (Any.strconv_Atoi_syntax_var Tryz.laysC172 s (by omega) h tp p w hv).mono ?_
    rintro e w' ⟨N, rfl, _, _, hb⟩
    exact ⟨_, rfl, hb⟩
  | range =>
    have hn : num s.data.toList = atoiSat s.data.toList := by unfold num; rw [h]
    rw [hn]
    obtain ⟨tp, p, hv⟩ := he.rng
    refine (Any.strconv_Atoi_range_var Tryz.laysC172 s (by omega) h tp p w hv).mono ?_
    rintro e w' ⟨N, rfl, _, _, hb⟩
    exact ⟨_, rfl, hb⟩

end Go.Proofs.YtninheehoabbbaaGreatDoor
