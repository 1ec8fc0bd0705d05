/-
  Contract of Parse.
-/
import Derived.Test.YtninheehoabbbaaGreatDoorN21
namespace Go.Proofs.YtninheehoabbbaaGreatDoor
set_option linter.unusedSimpArgs false
set_option linter.unusedVariables false
open Go.RowKit Go.Vr Go.Sort Go.Tx Go.Lib
attribute [local go_sem] setCellDrewN allocDrewN

/-- What Parse tells: spans of the call's own, or where the text is none. -/
def Parsed (B : Nat) (o : Option (List Sp.S) × Nat) (e : Ending) (w' : World) : Prop := match o.1 with
  | none => e = .returned (.tuple #[.slice none 0 0, .int .i64 o.2, .int .i64 6])
  | some l => ∃ v', e = .returned (.tuple #[v', .int .i64 0, .int .i64 0]) ∧ EOwn ES w' B v' l

set_option maxHeartbeats 8000000 in
set_option maxRecDepth 100000 in
theorem sparse_any (s : ByteArray) (w : World) (hs : s.size ≤ 2000) (hia : IA s) (he : Env w) :
    Calls Tryz.prog 7 #[.string s] w fun e w' => Parsed w.heap.size (Sp.parseS s.data.toList) e w' ∧ RowKit.Below w.heap.size w w' := by
  have hb : RowKit.Below w.heap.size w (w.alloc (.cells (rd s 0) 49)) := (by repeat (first | with_reducible assumption | with_reducible exact Below.refl _ _ | with_reducible refine Below.setCell ?_ (by first | exact Nat.le_refl _ | (simp; done) | (simp; omega)) _ | with_reducible refine bal ?_ _ | with_reducible refine Below.alloc ?_ (by first | exact Nat.le_refl _ | (simp; done) | (simp; omega)) _ | with_reducible refine Below.drew ?_))
  have CP := hide (parts_any w.heap.size s w (w.alloc (.cells (rd s 0) 49)) (Box.new w (rd s 0) _) hs hia hb (Nat.le_refl _) he)
  have HB := hide hb
  clear hia he hb
  generalize Sp.parseS s.data.toList = pm at *
  obtain ⟨o, q⟩ := pm
  cases o with
  | none =>
    go_enter Tryz.func7, Tryz.ntmps7
    go_wp2_with fail
    refine CP.out.mono ?_
    rintro e w2 ⟨t2, g2⟩
    obtain ⟨h2, X2⟩ : e = .returned (.tuple #[.slice none 0 0, .bool false]) ∧ Box w2 w.heap.size (rd s q) := t2
    subst h2
    have hB2 := below_of HB.out (Nat.le_refl _) g2
    obtain ⟨l2, c2, f2⟩ := X2
    clear CP g2
    go_wp2_with fail
    go_quiet (fail)
    go_wp2_with fail
    exact bodyPost_ret (v := .tuple #[.slice none 0 0, .int .i64 q, .int .i64 6]) (by simp [results, Tryz.results7, go_sem]) rfl ⟨rfl, step hB2 (belDrewN _ _)⟩
  | some l =>
    go_enter Tryz.func7, Tryz.ntmps7
    go_wp2_with fail
    refine CP.out.mono ?_
    rintro e w2 ⟨t2, g2⟩
    obtain ⟨v2, h2, o2, X2⟩ : ∃ v', e = .returned (.tuple #[v', .bool true]) ∧ EOwn ES w2 (w.heap.size + 1) v' l ∧ Box w2 w.heap.size (rd s q) := t2
    subst h2
    have hB2 := below_of HB.out (Nat.le_refl _) g2
    have o3 := o2.base (Nat.le_succ w.heap.size)
    clear CP g2 X2 o2
    go_wp2_with fail
    exact bodyPost_ret (v := .tuple #[v2, .int .i64 0, .int .i64 0]) (by simp [results, Tryz.results7, go_sem]) rfl ⟨⟨v2, rfl, o3⟩, hB2⟩
end Go.Proofs.YtninheehoabbbaaGreatDoor
