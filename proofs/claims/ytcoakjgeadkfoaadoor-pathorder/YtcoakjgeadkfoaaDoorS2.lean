/-
  The library's contracts in this text's words (those that paths need), and what of the world they lean on.
-/
import Derived.Test.YtcoakjgeadkfoaaDoorShelf6
import Derived.Test.YtcoakjgeadkfoaaDoorR1
import Derived.Test.YtcoakjgeadkfoaaDoorM10
import Derived.WalkSmall
import Derived.Lib.AtoiErrMem
import Derived.Lib.AppendIntMem
namespace Go.Proofs.YtcoakjgeadkfoaaDoor
set_option linter.unusedVariables false
open Go.RowKit Go.Vr Go.Sort Go.Tx Go.Lib

theorem hide {p : Prop} (h : p) : Hid p := h
/-- The library's own variables, as they were laid. -/
structure Env (w : World) : Prop where
  mx : ∃ m, w.cell? ⟨Tryd.lays145_ren.g 1, 0, none⟩ = some (.int .i64 m)
  tab : TabIs Tryd.prog w "internal/strconv.uint64pow10" .u64 pow10Tab
  syn : ∃ tp p, w.var? Tryd.prog "strconv.ErrSyntax" = some #[.iface tp p]
  rng : ∃ tp p, w.var? Tryd.prog "strconv.ErrRange" = some #[.iface tp p]

theorem var_lt {P : Program} {w : World} {n : String} {cs : Array Value} {g : Nat} (hg : P.globalNamed n = some g) (h : w.var? P n = some cs) : g < w.heap.size := by
  unfold World.var? at h
  simp only [hg, Option.bind_some] at h
  by_cases hlt : g < w.heap.size
  · exact hlt
  · rw [Array.getElem?_eq_none (by omega)] at h; simp at h
theorem var_later {w w' : World} {n : String} {cs : Array Value} {g : Nat} (hg : Tryd.prog.globalNamed n = some g) (hb : Below w.heap.size w w') (h : w.var? Tryd.prog n = some cs) : w'.var? Tryd.prog n = some cs :=
  var?_below hb hg (var_lt hg h) h
theorem Env.later {w w' : World} (h : Env w) (hb : Below w.heap.size w w') : Env w' := by
  obtain ⟨⟨m, h1⟩, h2, ⟨t3, p3, h3⟩, ⟨t4, p4, h4⟩⟩ := h
  exact ⟨⟨m, cellLater hb h1⟩, var_later Tryd.laysM171.m17 hb h2, ⟨t3, p3, var_later Tryd.laysC172.m15 hb h3⟩, ⟨t4, p4, var_later Tryd.laysC172.m16 hb h4⟩⟩

/-- strings.IndexByte. -/
theorem indexByte_any (s : ByteArray) (c : Int) (w : World) :
    Calls Tryd.prog 28 #[.string s, .int .u8 c] w fun e w' => e = .returned (.int .i64 (indexByte s.data.toList c.toNat.toUInt8)) ∧ w' = w := Any.strings_IndexByte Tryd.lays137 s c w
/-- strings.LastIndexByte. -/
theorem lastIndexByte_any (s : ByteArray) (c : Int) (hs : s.size < 4611686018427387904) (w : World) :
    Calls Tryd.prog 25 #[.string s, .int .u8 c] w fun e w' => e = .returned (.int .i64 (lastIndexByte s c)) ∧ w' = w := Any.strings_LastIndexByte Tryd.lays149 s c hs w
/-- strings.Cut. -/
theorem cut_any (s sep : ByteArray) (w : World) (hs : s.size ≤ 100000) (he : Env w) :
    Calls Tryd.prog 22 #[.string s, .string sep] w fun e w' => e = .returned (.tuple #[.string (str (cut s.data.toList sep.data.toList).1), .string (str (cut s.data.toList sep.data.toList).2.1), .bool (cut s.data.toList sep.data.toList).2.2]) ∧ Below w.heap.size w w' := by
  obtain ⟨m, hm⟩ := he.mx
  refine (Any.strings_Cut Tryd.lays145 s sep m w (by omega) hm).mono ?_
  rintro e w' ⟨rfl, n, rfl⟩
  exact ⟨rfl, belDrewN w n⟩
/-- strconv.Itoa. -/
theorem itoa_any (n : Int) (w : World) (h0 : -9223372036854775808 ≤ n) (h1 : n ≤ 9223372036854775807) (he : Env w) :
    Calls Tryd.prog 32 #[.int .i64 n] w fun e w' => e = .returned (.string (str (itoa n))) ∧ Below w.heap.size w w' := by
  refine (Any.strconv_Itoa Tryd.laysM171 n h0 h1 w he.tab).mono ?_
  rintro e w' ⟨rfl, k, os, rfl⟩
  exact ⟨rfl, below_grow _ w (Nat.le_refl _) k os⟩
/-- strings.CutPrefix. -/
theorem cutPrefix_any (s p : ByteArray) (w : World) :
    Calls Tryd.prog 24 #[.string s, .string p] w fun e w' => e = .returned (.tuple #[.string (str (trimPrefix s.data.toList p.data.toList)), .bool (hasPrefix s.data.toList p.data.toList)]) ∧ w' = w := Any.strings_CutPrefix Tryd.lays103 s p w
/-- How strconv.Atoi ends: with a number and no error, or with an error. -/
theorem atoi_ends (s : ByteArray) (w : World) (hs : s.size ≤ 100000) (he : Env w) :
    Calls Tryd.prog 31 #[.string s] w fun e w' => ((∃ v, atoiAll s.data.toList = .ok v ∧ e = .returned (.tuple #[.int .i64 v, .nilIface])) ∨ (∃ n tp p, (∀ v, atoiAll s.data.toList ≠ .ok v) ∧ e = .returned (.tuple #[.int .i64 n, .iface tp p]))) ∧ Below w.heap.size w w' := by
  cases h : atoiAll s.data.toList with
  | ok v =>
    refine (Any.strconv_Atoi_ok Tryd.laysC172 s (by omega) v h w).mono ?_
    rintro e w' ⟨rfl, rfl | ⟨t, rfl⟩⟩
    · exact ⟨.inl ⟨v, rfl, rfl⟩, Below.refl _ _⟩
    · exact ⟨.inl ⟨v, rfl, rfl⟩, bytesWorld_below w _ t⟩
  | «syntax» =>
    obtain ⟨tp, p, hv⟩ := he.syn
    refine (Any.strconv_Atoi_syntax_var Tryd.laysC172 s (by omega) h tp p w hv).mono ?_
    rintro e w' ⟨N, rfl, _, _, hb⟩
    exact ⟨.inr ⟨_, _, _, (fun v => nofun), rfl⟩, hb⟩
  | range =>
    obtain ⟨tp, p, hv⟩ := he.rng
    refine (Any.strconv_Atoi_range_var Tryd.laysC172 s (by omega) h tp p w hv).mono ?_
    rintro e w' ⟨N, rfl, _, _, hb⟩
    exact ⟨.inr ⟨_, _, _, (fun v => nofun), rfl⟩, hb⟩

end Go.Proofs.YtcoakjgeadkfoaaDoor
