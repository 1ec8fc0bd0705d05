/-
  Contract of behind.
-/
import Derived.Test.YtninheehoabbbaaGreatDoorU11
import Derived.Test.YtninheehoabbbaaGreatDoorU6
namespace Go.Proofs.YtninheehoabbbaaGreatDoor
set_option linter.unusedSimpArgs false
set_option linter.unusedVariables false
open Go.RowKit Go.Vr Go.Sort Go.Tx Go.Lib
attribute [local go_sem] setCellDrewN allocDrewN

/-- What stands behind a version, ending so. -/
def bver (has : Bool) (v : V) (l : ByteArray) : V :=
  if has = true then (if v.p.size = 0 then ⟨v.a, v.b, v.c + 1, str ([48] ++ 46 :: l.data.toList)⟩ else ⟨v.a, v.b, v.c, str (v.p.data.toList ++ 46 :: ([48] ++ 46 :: l.data.toList))⟩) else ⟨0, 0, 0, l⟩
theorem bver_pver (has : Bool) (v : V) (t : Int) (id : Bs) : bver has v (str (stamp t id)) = pver has v t id := by
  unfold bver pver
  cases has with
  | false => rfl
  | true =>
    simp only [if_true]
    have hl := len_eq v.p
    by_cases h : v.p.size = 0
    · have e : v.p.data.toList = [] := List.eq_nil_of_length_eq_zero (by rw [hl]; exact h)
      rw [if_pos h, if_pos e, e]
      rfl
    · have e : ¬ v.p.data.toList = [] := fun e => h (by rw [← hl, e]; rfl)
      rw [if_neg h, if_neg e]
      unfold lead
      simp [e, str_list]

/-- dotted of three, of two, behind a draw. -/
theorem dotted3d (x y z : ByteArray) (w : World) (hx : x.size ≤ 1000) (hy : y.size ≤ 1000) (hz : z.size ≤ 1000) :
    Calls Tryz.prog 78 #[.slice (some ⟨w.heap.size, 0, none⟩) 3 3] (w.alloc (.cells #[.string x, .string y, .string z] 9)).drew fun e w' => e = .returned (.string (str (x.data.toList ++ 46 :: (y.data.toList ++ 46 :: z.data.toList)))) ∧ Below w.heap.size w w' :=
  (dotted3 x y z w.drew hx hy hz).mono fun _ _ h => ⟨h.1, ((Below.refl _ _).drew).trans h.2⟩
theorem dotted2d (x y : ByteArray) (w : World) (hx : x.size ≤ 1000) (hy : y.size ≤ 1000) :
    Calls Tryz.prog 78 #[.slice (some ⟨w.heap.size, 0, none⟩) 2 2] (w.alloc (.cells #[.string x, .string y] 9)).drew fun e w' => e = .returned (.string (str (x.data.toList ++ 46 :: y.data.toList))) ∧ Below w.heap.size w w' :=
  (dotted2 x y w.drew hx hy).mono fun _ _ h => ⟨h.1, ((Below.refl _ _).drew).trans h.2⟩

end Go.Proofs.YtninheehoabbbaaGreatDoor
