/-
  Contract of the reference's Find.
-/
import Derived.Test.YtcoakjgeadkfoaaDoorH7
namespace Go.Proofs.YtcoakjgeadkfoaaDoor
set_option linter.unusedSimpArgs false
set_option linter.unusedVariables false
open Go.RowKit Go.Vr Go.Sort Go.Tx Go.Pa Go.Lib
attribute [local go_sem] setCellDrewN allocDrewN

def lv : Option Bs → Int | none => -1 | some q => (maj q).1.length
theorem better_long {p q : Bs} (h : (maj q).1.length < (maj p).1.length) : better p q = true := by rw [better_else (by omega), decide_eq_true h]
theorem better_less {p q : Bs} (h : (maj p).1.length < (maj q).1.length) : better p q = false := by rw [better_else (by omega), decide_eq_false (by omega)]
theorem better_eq {p q : Bs} (h : (maj p).1.length = (maj q).1.length) : better p q = Op.bytesLess (str p).toList (str q).toList := by rw [better_same h, less_is, toList_data, toList_data, str_list, str_list]

end Go.Proofs.YtcoakjgeadkfoaaDoor
