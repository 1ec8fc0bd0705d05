/-
  slices.SortFunc, slices.Grow at spans; strings.IndexAny, strings.CutSuffix: the shelf's contracts, laid at this program.
  slices.SortFunc at spans, by where they begin.
  Rows of rows of spans; slices.Grow, slices.Concat at spans.
-/
import Derived.Test.YthihnpjbdjmbhaaGreatDoorProg
import Derived.Shelf.SlSortCmp.WholeK
import Derived.Shelf.Spec.SlicesGrow
import Derived.Shelf.Small.Wraps
import Derived.Shelf.Strings.IndexAnyAll
import Derived.Test.YthihnpjbdjmbhaaGreatDoorG15

namespace Go.Proofs.YthihnpjbdjmbhaaGreatDoor
set_option linter.unusedVariables false
open Go.Shelf Go.RowKit

def Tryz.SlLaysF0n6_ren : Go.Shelf.Ren := ⟨fun | 0 => 0 | 1 => 1 | 2 => 2 | 6 => 37 | 11 => 83 | 14 => 63 | 15 => 64 | 18 => 109 | 20 => 87 | 21 => 88 | 22 => 89 | 23 => 90 | 24 => 91 | 25 => 92 | 26 => 93 | 27 => 94 | 28 => 95 | 29 => 96 | 46 => 113 | 47 => 114 | 48 => 115 | 49 => 116 | 50 => 117 | 57 => 133 | 60 => 191 | 61 => 192 | 62 => 193 | 63 => 194 | 64 => 195 | 65 => 196 | 66 => 197 | 67 => 198 | 68 => 199 | 69 => 200 | 70 => 201 | 71 => 202 | 72 => 203 | 73 => 204 | 74 => 205 | 75 => 211 | n => n, fun | 0 => 0 | 1 => 1 | 2 => 2 | 3 => 3 | 4 => 4 | 5 => 5 | 6 => 6 | 7 => 7 | 8 => 8 | 9 => 9 | 10 => 10 | 11 => 11 | 12 => 12 | 13 => 13 | 14 => 14 | 15 => 15 | 16 => 16 | 17 => 17 | 18 => 18 | 19 => 19 | 20 => 20 | 21 => 21 | 22 => 28 | 23 => 74 | 24 => 44 | 25 => 75 | 27 => 22 | 29 => 26 | 37 => 101 | 38 => 102 | 39 => 103 | 40 => 72 | 42 => 132 | 44 => 115 | 45 => 116 | 46 => 117 | 47 => 118 | 48 => 119 | 49 => 120 | 50 => 59 | 51 => 121 | 52 => 122 | 53 => 123 | 54 => 124 | 55 => 125 | 66 => 135 | 67 => 136 | 68 => 137 | 69 => 138 | 70 => 139 | 71 => 140 | 76 => 150 | 77 => 151 | 78 => 152 | 81 => 95 | 82 => 200 | 83 => 201 | 84 => 202 | 85 => 203 | 86 => 204 | 87 => 205 | 88 => 206 | 89 => 207 | 90 => 208 | 91 => 111 | 92 => 209 | 93 => 210 | 94 => 211 | 95 => 212 | 96 => 129 | n => n, fun  | n => n⟩
theorem Tryz.SlLaysF0n6 : Go.Proofs.SlLaysF0.n6 Tryz.prog Tryz.SlLaysF0n6_ren := {
  mixed := by kernel_rfl
  f6 := ⟨Tryz.f37.name, by decide, Tryz.func37.trans (congrArg some (by kernel_rfl))⟩
  f14 := ⟨Tryz.f63.name, by decide, Tryz.func63.trans (congrArg some (by kernel_rfl))⟩
  f15 := Tryz.func64.trans (congrArg some (by kernel_rfl))
  f20 := ⟨Tryz.f87.name, by decide, Tryz.func87.trans (congrArg some (by kernel_rfl))⟩
  f21 := ⟨Tryz.f88.name, by decide, Tryz.func88.trans (congrArg some (by kernel_rfl))⟩
  f22 := ⟨Tryz.f89.name, by decide, Tryz.func89.trans (congrArg some (by kernel_rfl))⟩
  f23 := ⟨Tryz.f90.name, by decide, Tryz.func90.trans (congrArg some (by kernel_rfl))⟩
  f24 := ⟨Tryz.f91.name, by decide, Tryz.func91.trans (congrArg some (by kernel_rfl))⟩
  f25 := ⟨Tryz.f92.name, by decide, Tryz.func92.trans (congrArg some (by kernel_rfl))⟩
  f26 := ⟨Tryz.f93.name, by decide, Tryz.func93.trans (congrArg some (by kernel_rfl))⟩
  f27 := ⟨Tryz.f94.name, by decide, Tryz.func94.trans (congrArg some (by kernel_rfl))⟩
  f28 := Tryz.func95.trans (congrArg some (by kernel_rfl))
  f29 := Tryz.func96.trans (congrArg some (by kernel_rfl))
  f46 := ⟨Tryz.f113.name, by decide, Tryz.func113.trans (congrArg some (by kernel_rfl))⟩
  f47 := Tryz.func114.trans (congrArg some (by kernel_rfl))
  f48 := Tryz.func115.trans (congrArg some (by kernel_rfl))
  f49 := ⟨Tryz.f116.name, by decide, Tryz.func116.trans (congrArg some (by kernel_rfl))⟩
  f50 := ⟨Tryz.f117.name, by decide, Tryz.func117.trans (congrArg some (by kernel_rfl))⟩
  f57 := ⟨Tryz.f133.name, by decide, Tryz.func133.trans (congrArg some (by kernel_rfl))⟩
  t0 := Tryz.underlying0
  a0 := Tryz.isAgg0
  z0 := Tryz.sizeOf0
  v0 := Tryz.zeroValue0
  t3 := Tryz.underlying3
  a3 := Tryz.isAgg3
  z3 := Tryz.sizeOf3
  v3 := Tryz.zeroValue3
  t4 := Tryz.underlying4
  a4 := Tryz.isAgg4
  z4 := Tryz.sizeOf4
  v4 := Tryz.zeroValue4
  t5 := Tryz.underlying5
  a5 := Tryz.isAgg5
  z5 := Tryz.sizeOf5
  v5 := Tryz.zeroValue5
  t9 := Tryz.underlying9
  a9 := Tryz.isAgg9
  z9 := Tryz.sizeOf9
  v9 := Tryz.zeroValue9
  t22 := Tryz.underlying28
  a22 := Tryz.isAgg28
  z22 := Tryz.sizeOf28
  v22 := Tryz.zeroValue28
  t25 := Tryz.underlying75
  a25 := Tryz.isAgg75
  z25 := Tryz.sizeOf75
  v25 := Tryz.zeroValue75
  t39 := Tryz.underlying103
  a39 := Tryz.isAgg103
  z39 := Tryz.sizeOf103
  v39 := Tryz.zeroValue103
  t45 := Tryz.underlying116
  a45 := Tryz.isAgg116
  z45 := Tryz.sizeOf116
  v45 := Tryz.zeroValue116
  t46 := Tryz.underlying117
  a46 := Tryz.isAgg117
  z46 := Tryz.sizeOf117
  v46 := Tryz.zeroValue117
  t50 := Tryz.underlying59
  a50 := Tryz.isAgg59
  z50 := Tryz.sizeOf59
  v50 := Tryz.zeroValue59
  t53 := Tryz.underlying123
  a53 := Tryz.isAgg123
  z53 := Tryz.sizeOf123
  v53 := Tryz.zeroValue123
  t55 := Tryz.underlying125
  a55 := Tryz.isAgg125
  z55 := Tryz.sizeOf125
  v55 := Tryz.zeroValue125
  t66 := Tryz.underlying135
  a66 := Tryz.isAgg135
  z66 := Tryz.sizeOf135
  v66 := Tryz.zeroValue135
  t70 := Tryz.underlying139
  a70 := Tryz.isAgg139
  z70 := Tryz.sizeOf139
  v70 := Tryz.zeroValue139
  t76 := Tryz.underlying150
  a76 := Tryz.isAgg150
  z76 := Tryz.sizeOf150
  v76 := Tryz.zeroValue150
  t77 := Tryz.underlying151
  a77 := Tryz.isAgg151
  z77 := Tryz.sizeOf151
  v77 := Tryz.zeroValue151 }
def Tryz.Lays8n4_ren : Go.Shelf.Ren := ⟨fun | 0 => 0 | 1 => 1 | 2 => 2 | 4 => 62 | 5 => 191 | 6 => 192 | 7 => 193 | 8 => 194 | 9 => 195 | 10 => 196 | 11 => 197 | 12 => 198 | 13 => 199 | 14 => 200 | 15 => 201 | 16 => 202 | 17 => 203 | 18 => 204 | 19 => 205 | 20 => 211 | n => n, fun | 0 => 0 | 1 => 1 | 2 => 2 | 3 => 3 | 4 => 4 | 5 => 5 | 6 => 6 | 7 => 7 | 8 => 8 | 9 => 9 | 10 => 10 | 11 => 11 | 12 => 12 | 13 => 13 | 14 => 14 | 15 => 15 | 16 => 16 | 17 => 17 | 18 => 18 | 19 => 19 | 20 => 20 | 21 => 21 | 22 => 28 | 23 => 100 | 25 => 44 | 26 => 95 | 27 => 200 | 28 => 201 | 29 => 202 | 30 => 203 | 31 => 204 | 32 => 205 | 33 => 123 | 34 => 206 | 35 => 207 | 36 => 208 | 37 => 111 | 38 => 209 | 39 => 210 | 40 => 211 | 41 => 212 | 42 => 129 | n => n, fun  | n => n⟩
theorem Tryz.Lays8n4 : Go.Proofs.Lays8.n4 Tryz.prog Tryz.Lays8n4_ren := {
  mixed := by kernel_rfl
  f4 := ⟨Tryz.f62.name, by decide, Tryz.func62.trans (congrArg some (by kernel_rfl))⟩
  t0 := Tryz.underlying0
  a0 := Tryz.isAgg0
  z0 := Tryz.sizeOf0
  v0 := Tryz.zeroValue0
  t3 := Tryz.underlying3
  a3 := Tryz.isAgg3
  z3 := Tryz.sizeOf3
  v3 := Tryz.zeroValue3
  t4 := Tryz.underlying4
  a4 := Tryz.isAgg4
  z4 := Tryz.sizeOf4
  v4 := Tryz.zeroValue4
  t9 := Tryz.underlying9
  a9 := Tryz.isAgg9
  z9 := Tryz.sizeOf9
  v9 := Tryz.zeroValue9
  t20 := Tryz.underlying20
  a20 := Tryz.isAgg20
  z20 := Tryz.sizeOf20
  v20 := Tryz.zeroValue20
  t22 := Tryz.underlying28
  a22 := Tryz.isAgg28
  z22 := Tryz.sizeOf28
  v22 := Tryz.zeroValue28 }
def Tryz.lays104_ren : Go.Shelf.Ren := ⟨fun | 104 => 138 | 207 => 175 | 211 => 160 | n => n, fun | 3 => 3 | 4 => 4 | 9 => 9 | 24 => 158 | n => n, fun | 1 => 0 | 3 => 6 | 4 => 7 | 15 => 2 | 16 => 3 | 17 => 1 | 18 => 4 | 19 => 5 | n => n⟩
theorem Tryz.lays104 : Go.Proofs.Lays.n104 Tryz.prog Tryz.lays104_ren := {
  mixed := by kernel_rfl
  f104 := Tryz.func138.trans (congrArg some (by kernel_rfl))
  f207 := Tryz.func175.trans (congrArg some (by kernel_rfl))
  f211 := Tryz.func160.trans (congrArg some (by kernel_rfl))
  t3 := Tryz.underlying3
  a3 := Tryz.isAgg3
  z3 := Tryz.sizeOf3
  v3 := Tryz.zeroValue3
  t4 := Tryz.underlying4
  a4 := Tryz.isAgg4
  z4 := Tryz.sizeOf4
  v4 := Tryz.zeroValue4
  t9 := Tryz.underlying9
  a9 := Tryz.isAgg9
  z9 := Tryz.sizeOf9
  v9 := Tryz.zeroValue9
  t24 := Tryz.underlying158
  a24 := Tryz.isAgg158
  z24 := Tryz.sizeOf158
  v24 := Tryz.zeroValue158 }
def Tryz.lays153_ren : Go.Shelf.Ren := ⟨fun | 119 => 157 | 137 => 120 | 152 => 134 | 153 => 118 | 217 => 141 | 224 => 158 | 225 => 159 | 226 => 135 | 227 => 136 | 228 => 137 | 266 => 161 | n => n, fun | 0 => 0 | 3 => 3 | 4 => 4 | 5 => 5 | 9 => 9 | 21 => 21 | 46 => 103 | 116 => 155 | 117 => 156 | 124 => 168 | n => n, fun | 1 => 0 | 3 => 6 | 4 => 7 | 15 => 2 | 16 => 3 | 17 => 1 | 18 => 4 | 19 => 5 | n => n⟩
theorem Tryz.lays153 : Go.Proofs.Lays.n153 Tryz.prog Tryz.lays153_ren := {
  mixed := by kernel_rfl
  f119 := Tryz.func157.trans (congrArg some (by kernel_rfl))
  f137 := Tryz.func120.trans (congrArg some (by kernel_rfl))
  f152 := Tryz.func134.trans (congrArg some (by kernel_rfl))
  f153 := Tryz.func118.trans (congrArg some (by kernel_rfl))
  f217 := Tryz.func141.trans (congrArg some (by kernel_rfl))
  f224 := Tryz.func158.trans (congrArg some (by kernel_rfl))
  f225 := Tryz.func159.trans (congrArg some (by kernel_rfl))
  f226 := Tryz.func135.trans (congrArg some (by kernel_rfl))
  f227 := Tryz.func136.trans (congrArg some (by kernel_rfl))
  f228 := Tryz.func137.trans (congrArg some (by kernel_rfl))
  f266 := Tryz.func161.trans (congrArg some (by kernel_rfl))
  t0 := Tryz.underlying0
  a0 := Tryz.isAgg0
  z0 := Tryz.sizeOf0
  v0 := Tryz.zeroValue0
  t3 := Tryz.underlying3
  a3 := Tryz.isAgg3
  z3 := Tryz.sizeOf3
  v3 := Tryz.zeroValue3
  t4 := Tryz.underlying4
  a4 := Tryz.isAgg4
  z4 := Tryz.sizeOf4
  v4 := Tryz.zeroValue4
  t5 := Tryz.underlying5
  a5 := Tryz.isAgg5
  z5 := Tryz.sizeOf5
  v5 := Tryz.zeroValue5
  t9 := Tryz.underlying9
  a9 := Tryz.isAgg9
  z9 := Tryz.sizeOf9
  v9 := Tryz.zeroValue9
  t21 := Tryz.underlying21
  a21 := Tryz.isAgg21
  z21 := Tryz.sizeOf21
  v21 := Tryz.zeroValue21
  t46 := Tryz.underlying103
  a46 := Tryz.isAgg103
  z46 := Tryz.sizeOf103
  v46 := Tryz.zeroValue103
  t116 := Tryz.underlying155
  a116 := Tryz.isAgg155
  z116 := Tryz.sizeOf155
  t117 := Tryz.underlying156
  a117 := Tryz.isAgg156
  z117 := Tryz.sizeOf156
  v117 := Tryz.zeroValue156
  t124 := Tryz.underlying168
  a124 := Tryz.isAgg168
  z124 := Tryz.sizeOf168
  v124 := Tryz.zeroValue168 }
end Go.Proofs.YthihnpjbdjmbhaaGreatDoor

namespace Go.Proofs.YthihnpjbdjmbhaaGreatDoor
set_option linter.unusedSimpArgs false
set_option linter.unusedVariables false
open Go.RowKit Go.Vr Go.Sort Go.Tx Go.Lib
attribute [local go_sem] setCellDrewN allocDrewN

set_option maxHeartbeats 4000000 in
theorem or1_any (s t : Sp.S) (hs : Sp.okS s) (ht : Sp.okS t) (w : World) (he : Env w) :
    Calls Tryz.prog 38 #[(pt s).val, (pt t).val] w fun e w' => e = .returned (.int .i64 (Sp.cmpC s.1 t.1)) ∧ RowKit.Below w.heap.size w w' := by
  have CL : Hid (∀ W, Calls Tryz.prog 25 #[(pt s).val] W fun e w' => e = .returned (pl s.1).val ∧ RowKit.Below W.heap.size W w') := fun W => by rw [← pl_val, ← pt_val]; exact low_any _ hs W
  have CL2 : Hid (∀ W, Calls Tryz.prog 25 #[(pt t).val] W fun e w' => e = .returned (pl t.1).val ∧ RowKit.Below W.heap.size W w') := fun W => by rw [← pl_val, ← pt_val]; exact low_any _ ht W
  have C1 : Hid (∀ W, RowKit.Below w.heap.size w W → Calls Tryz.prog 34 #[(pl s.1).val, (pl t.1).val] W fun e w' => e = .returned (.int .i64 (Sp.cmpC s.1 t.1)) ∧ RowKit.Below W.heap.size W w') := fun W hW => by rw [← pl_val, ← pl_val]; exact ccmp_any _ _ hs.2.1 ht.2.1 W (he.later hW)
  clear hs ht he
  generalize Sp.cmpC s.1 t.1 = k1 at *
  generalize pl s.1 = u1 at *
  generalize pl t.1 = u2 at *
  generalize pt s = q at *
  generalize pt t = r at *
  go_enter Tryz.func38, Tryz.ntmps38
  go_wp2_with fail
  have HB := hide (show RowKit.Below w.heap.size w ((w.alloc (.cells q.cells 44)).alloc (.cells r.cells 44)) from (by repeat (first | with_reducible assumption | with_reducible exact Below.refl _ _ | with_reducible refine Below.setCell ?_ (by first | exact Nat.le_refl _ | (simp; done) | (simp; omega)) _ | with_reducible refine bal ?_ _ | with_reducible refine Below.alloc ?_ (by first | exact Nat.le_refl _ | (simp; done) | (simp; omega)) _ | with_reducible refine Below.drew ?_)))
  have X := (Box.new w q.cells 44).alloc (.cells r.cells 44)
  have Y := Box.new (w.alloc (.cells q.cells 44)) r.cells 44
  have hs : (w.alloc (.cells q.cells 44)).heap.size = w.heap.size + 1 := by simp
  rw [hs] at Y
  clear hs
  generalize (w.alloc (.cells q.cells 44)).alloc (.cells r.cells 44) = W at *
  have KX : ∀ d os i, (grow (redrawn W d) os).cell? ⟨w.heap.size, i, none⟩ = (q.cells)[i]? := fun d os => (X.regrown d os).c
  have KY : ∀ d os i, (grow (redrawn W d) os).cell? ⟨w.heap.size + 1, i, none⟩ = (r.cells)[i]? := fun d os => (Y.regrown d os).c
  clear X Y
  refine wp_region_quiet_below mixed (by kernel_rfl) ?_
  quiet_step (fail)
  quiet_step (exact Calls.regrown_of (CL.out _))
  quiet_step (fail)
  quiet_step (exact Calls.regrown_of (CL2.out _))
  quiet_step (exact Calls.regrown_of (C1.out _ (HB.out.trans ((below_regrown W _ _).mono HB.out.size))))
  quiet_step (fail)
  refine wpQuiet_nil ?_
  intro w1 hw1
  have hHeld := regrown_below hw1
  clear hw1 KX KY
  go_wp2_with fail
  go_ret
  exact ⟨rfl, HB.out.trans (hHeld.mono HB.out.size)⟩

/-- Spans that may be. -/
abbrev OkS := { s : Sp.S // Sp.okS s }
def okDef : OkS := ⟨(Sp.start, none), ⟨⟨_, rfl⟩, Sp.ok_start, Sp.ok_end⟩⟩
instance : Inhabited OkS := ⟨okDef⟩
def cfS (x y : OkS) : Int := Sp.cmpC x.1.1 y.1.1
theorem swoS : SWO (ltOf cfS) where
  irrefl x := by unfold ltOf cfS; rw [Sp.ord_cut.refl]; decide
  trans x y z h1 h2 := by
    unfold ltOf cfS at *
    simp only [decide_eq_true_eq] at *
    exact Sp.lt_trans Sp.ord_cut h1 h2
  ntrans x y z h1 h2 := by
    unfold ltOf cfS at *
    simp only [decide_eq_false_iff_not] at *
    exact Sp.le_not Sp.ord_cut (Sp.ord_cut.le _ _ _ (Sp.not_lt Sp.ord_cut h2) (Sp.not_lt Sp.ord_cut h1))
theorem putRow_below {α : Type} [Inhabited α] (enc : α → Value) (w : World) (blk off : Nat) (d : Array α) (B : Nat) (hB : B ≤ blk) : RowKit.Below B w (putRow enc w blk off d) :=
  ⟨rfl, rfl, rfl, by simp, fun k hk => by
    show (w.heap.modify blk _)[k]? = _
    rw [Array.getElem?_modify, if_neg (by omega)]⟩
theorem sortWorld_grown {α : Type} [Inhabited α] (enc : α → List Value) (k : Nat) (w : World) (blk off m : Nat) (d : Array α) (os : Array Obj) : w.grownBy (sortWorldK enc k w blk off m d os) (some blk) := by
  refine ⟨rfl, rfl, rfl, ?_, fun j hj hne => ?_⟩
  · unfold sortWorldK putRowK grow
    simp [Sort.ahead]
  · unfold sortWorldK putRowK grow
    rw [Array.getElem?_append_left (by simpa [Sort.ahead] using hj)]
    show ((Sort.ahead w m).heap.modify blk _)[j]? = _
    rw [Array.getElem?_modify, if_neg (fun e => hne (by rw [e]))]
    rfl
theorem cmpLays (blk off size : Nat) (w0 w : World) (hb : RowKit.Below w0.heap.size w0 w) (hg : w0.heap.size ≤ blk) (he : Env w0) : CmpLays Tryz.prog 38 #[] (fun s : OkS => encS s.1) 11 cfS blk off size w := by
  intro m os dk _ x y
  have h := sortWorld_grown (fun s : OkS => encS s.1) 11 w blk off m dk os
  exact Calls.grown (or1_any x.1 y.1 x.2 y.2 _ (he.later (hb.grown h hb.size (fun k e => by have := Option.some.inj e; omega))))
theorem or1_enters : ∀ args w, (callFunc 38 args).run Tryz.prog w = .ok (.enter 38 args) w := enters_of Tryz.func38 (by kernel_rfl) rfl

theorem flat_get (d : Array OkS) (l : List Sp.S) (hl : d.toList.map (·.1) = l) (t : Nat) (ht : t < d.size * 11) : (ES.encs l)[t]? = some ((flatK (fun s : OkS => encS s.1) 11 d)[t]!) := by
  have hj : t / 11 < d.size := by omega
  have hx : l[t / 11]? = some (d[t / 11]!).1 := by
    rw [← hl, List.getElem?_map, Array.getElem?_toList, Array.getElem?_eq_getElem hj, getElem!_pos d _ hj]; rfl
  have e : t = t / 11 * 11 + t % 11 := by omega
  have hk : t % 11 < 11 := Nat.mod_lt _ (by decide)
  rw [get_flatK _ _ _ _ ht]
  have h := ES.encs_at l (t / 11) _ (t % 11) hx hk
  have e2 : t / 11 * ES.k + t % 11 = t := by show t / 11 * 11 + t % 11 = t; omega
  rw [e2] at h
  rw [h]
  show (encS (d[t / 11]!).1)[t % 11]? = some ((encS (d[t / 11]!).1)[t % 11]!)
  rw [List.getElem?_eq_getElem (show t % 11 < (encS (d[t / 11]!).1).length from hk), getElem!_pos (encS (d[t / 11]!).1) (t % 11) hk]
  rfl

/-- slices.SortFunc over a row of the call's own. -/
theorem sortF_any (B : Nat) (v : Value) (l : List Sp.S) (w0 w : World) (ho : EOwn ES w B v l) (hb : RowKit.Below w0.heap.size w0 w) (hB : w0.heap.size ≤ B) (hk : Sp.okL l) (hne : l ≠ []) (hn : l.length ≤ 100000) (he : Env w0) :
    Calls Tryz.prog 37 #[v, .func (.func 38) #[] #[]] w fun e w' => e = .returned (.tuple #[]) ∧ ∃ l', (∀ s, s ∈ l' ↔ s ∈ l) ∧ l'.length = l.length ∧ Sp.Rise Sp.cmpC l' ∧ (∃ ad cap, v = .slice ad l.length cap ∧ ERow ES w' ad l.length l') ∧ w.grownBy w' v.ownBlock := by
  rcases ho.form with ⟨_, h0⟩ | ⟨g, cap, rfl, hg, hgl, hnc, hm, hr⟩
  · exact absurd h0 hne
  have hk' : ∀ s ∈ l, Sp.okS s := hk
  have hd : ((l.pmap (fun s h => (⟨s, h⟩ : OkS)) hk').toArray).toList.map (·.1) = l := by simp [List.map_pmap]
  generalize (l.pmap (fun s h => (⟨s, h⟩ : OkS)) hk').toArray = d at hd
  have hds : d.size = l.length := by have := congrArg List.length hd; simpa using this
  have hH : HoldsK (fun s : OkS => encS s.1) 11 w g 0 d := by
    intro t ht
    rw [size_flatK] at ht
    have h1 := flat_get d l hd t ht
    refine ⟨?_, ?_⟩
    · have := hr.cell _ rfl t _ h1
      rw [addr_add] at this
      exact this
    · rcases ho.2 with ⟨e, _⟩ | ⟨g', cap', cur, e, _, hh, _⟩
      · cases e
      · obtain ⟨rfl, _⟩ : g = g' ∧ cap = cap' := by injection e with e1 e2 e3; injection e1 with e1; injection e1 with e1; exact ⟨e1, e3⟩
        simp [World.frozen?, hh]
  have L := Tryz.SlLaysF0n6
  have h := AnyQ.slices_SortFunc L 11 (fun w => Tryz.isAgg44 (w := w)) (fun w => Tryz.sizeOf44 (w := w)) (fun s : OkS => encS s.1) (fun _ => rfl) (fun x => ES.one x.1) cfS swoS 38 #[] g 0 cap d w or1_enters (cmpLays g 0 d.size w0 w hb (by omega) he) hH hgl (by omega)
  rw [hds] at h
  refine h.mono ?_
  rintro e w' ⟨he', d', m, os, hp, hs, hw⟩
  have hsz : d'.size = d.size := hp.1
  have hpm : d'.toList.Perm d.toList := by
    have h3 := hp.2.2
    rw [← hds] at h3
    have e1 : d.extract 0 d.size = d := by simp
    have e2 : d'.extract 0 d.size = d' := by rw [← hsz]; simp
    rw [e1, e2] at h3
    exact h3
  have hH' : HoldsK (fun s : OkS => encS s.1) 11 w' g 0 d' := SWK.holds (d0 := d) ⟨m, os, hw⟩ hgl hH hsz
  refine ⟨he', d'.toList.map (·.1), ?_, ?_, ?_, ⟨_, _, rfl, ?_⟩, ?_⟩
  · intro s
    rw [← hd]
    exact (hpm.map (·.1)).mem_iff
  · rw [List.length_map, Array.length_toList, hsz, hds]
  · have key : ∀ (l1 l2 : List OkS), d'.toList = l1 ++ l2 → Sp.Rise Sp.cmpC (l2.map (·.1)) := by
      intro l1 l2
      induction l2 generalizing l1 with
      | nil => intro _; exact trivial
      | cons x l2 ih =>
        intro e
        refine ⟨fun t ht => ?_, ih (l1 ++ [x]) (by rw [e]; simp)⟩
        obtain ⟨y, hy, rfl⟩ := List.mem_map.1 ht
        obtain ⟨j, hj, rfl⟩ := List.getElem_of_mem hy
        have hlen : d'.size = l1.length + (l2.length + 1) := by rw [← Array.length_toList, e]; simp
        have h1 := hs l1.length (l1.length + 1 + j) (Nat.zero_le _) (by omega) (by omega)
        have g1 : d'[l1.length]! = x := by
          rw [getElem!_pos d' _ (by omega), ← Array.getElem_toList]
          simp [e]
        have g2 : d'[l1.length + 1 + j]! = l2[j] := by
          rw [getElem!_pos d' _ (by omega), ← Array.getElem_toList]
          simp [e, Nat.add_assoc, List.getElem_append_right, Nat.add_comm 1 j]
        rw [g1, g2] at h1
        unfold ltOf cfS at h1
        simp only [decide_eq_false_iff_not] at h1
        exact Sp.not_lt Sp.ord_cut h1
    exact key [] d'.toList rfl
  · refine ⟨by rw [List.length_map, Array.length_toList, hsz, hds], (fun e => nomatch e), fun x e j v hj => ?_⟩
    obtain rfl : ⟨g, 0, none⟩ = x := by simpa using e
    have hlt : j < d'.size * 11 := by
      have := (List.getElem?_eq_some_iff.1 hj).1
      rw [ES.encs_len, List.length_map, Array.length_toList] at this
      exact this
    have h1 := flat_get d' _ rfl j hlt
    rw [h1] at hj
    rw [addr_add, ← Option.some.inj hj]
    exact (hH' j (by rw [size_flatK]; exact hlt)).1
  · rw [hw]; exact sortWorld_grown _ _ _ _ _ _ _ _
end Go.Proofs.YthihnpjbdjmbhaaGreatDoor

namespace Go.Proofs.YthihnpjbdjmbhaaGreatDoor
set_option linter.unusedSimpArgs false
set_option linter.unusedVariables false
open Go.RowKit Go.Vr Go.Sort Go.Tx Go.Lib
attribute [local go_sem] setCellDrewN allocDrewN

/-- A slice's three parts. -/
structure Sl where
  a : Option Addr
  n : Nat
  cap : Nat
abbrev Sl.val (s : Sl) : Value := .slice s.a s.n s.cap
def ER : El Sl where
  enc := fun s => [s.val]
  k := 1
  T := 28
  TS := 73
  z := .slice none 0 0
  bytes := 24
  hk := fun _ => rfl
  one := by
    intro x u hu
    simp only [List.mem_cons, List.not_mem_nil, or_false] at hu
    subst hu; rfl
  ht := Tryz.underlying73
  hi := ⟨Tryz.t28, by kernel_rfl, by kernel_rfl, by kernel_rfl, by kernel_rfl⟩
  hzs := by kernel_rfl
  hk0 := by decide
  hby := by decide

/-- Rows that are there, each of spans that are there. -/
def Each (w : World) : List Sl → List (List Sp.S) → Prop
  | [], [] => True
  | t :: ts, l :: ls => ERow ES w t.a t.n l ∧ Each w ts ls
  | _, _ => False
theorem Each.later {w w' : World} (hb : RowKit.Below w.heap.size w w') : ∀ {ts : List Sl} {ls : List (List Sp.S)}, Each w ts ls → Each w' ts ls
  | [], [], _ => trivial
  | _ :: _, _ :: _, h => ⟨h.1.later hb, Each.later hb h.2⟩
  | [], _ :: _, h => h.elim
  | _ :: _, [], h => h.elim
theorem Each.len {w : World} : ∀ {ts : List Sl} {ls : List (List Sp.S)}, Each w ts ls → ts.length = ls.length
  | [], [], _ => rfl
  | _ :: ts, _ :: ls, h => by rw [List.length_cons, List.length_cons, Each.len h.2]
  | [], _ :: _, h => h.elim
  | _ :: _, [], h => h.elim
theorem Each.at_ {w : World} : ∀ {ts : List Sl} {ls : List (List Sp.S)} (_ : Each w ts ls) (j : Nat) (h1 : j < ts.length) (h2 : j < ls.length), ERow ES w ts[j].a ts[j].n ls[j]
  | [], _, _, j, h1, _ => by simp at h1
  | _ :: _, [], _, j, _, h2 => by simp at h2
  | _ :: ts, _ :: ls, h, 0, _, _ => h.1
  | _ :: ts, _ :: ls, h, j + 1, h1, h2 => by simpa using Each.at_ h.2 j (by simpa using h1) (by simpa using h2)
theorem Each.app {w : World} : ∀ {ts : List Sl} {ls : List (List Sp.S)} {t : Sl} {l : List Sp.S}, Each w ts ls → ERow ES w t.a t.n l → Each w (ts ++ [t]) (ls ++ [l])
  | [], [], _, _, _, h => ⟨h, trivial⟩
  | _ :: _, _ :: _, _, _, h, k => ⟨h.1, Each.app h.2 k⟩
  | [], _ :: _, _, _, h, _ => h.elim
  | _ :: _, [], _, _, h, _ => h.elim
structure RRow (w : World) (a : Option Addr) (len : Nat) (ls : List (List Sp.S)) : Prop where
  ex : ∃ ts : List Sl, ERow ER w a len ts ∧ Each w ts ls
theorem RRow.later {w w' : World} {a : Option Addr} {len : Nat} {ls : List (List Sp.S)} (h : RRow w a len ls) (hb : RowKit.Below w.heap.size w w') : RRow w' a len ls := by
  obtain ⟨ts, h1, h2⟩ := h.ex
  exact ⟨ts, h1.later hb, h2.later hb⟩

theorem grow_nil (n : Nat) (w : World) (hn : n ≤ 100000) :
    Calls Tryz.prog 62 #[.slice none 0 0, .int .i64 n] w fun e w' => ∃ v, e = .returned v ∧ EOwn ES w' w.heap.size v [] ∧ RowKit.Below w.heap.size w w' := by
  by_cases h0 : n = 0
  · subst h0
    exact (Any8.slices_Grow_room Tryz.Lays8n4 none 0 0 0 w (by omega) (by omega) (by omega) (by omega)).mono fun e w' ⟨h1, h2⟩ => ⟨_, h1, EOwn.nil _ _, by rw [h2]; exact RowKit.Below.refl _ _⟩
  · refine (Any8.slices_Grow_grow Tryz.Lays8n4 Tryz.t44 (spv 0 0 0 ⟨#[]⟩ 0 0 0 ⟨#[]⟩ false false false) (by kernel_rfl) (by kernel_rfl) (of_decide_eq_true (by kernel_rfl)) none 0 0 n [] w (by omega) (by omega) ?_ (by omega) (by simp) (fun _ => rfl) (fun a e => nomatch e)).mono ?_
    · have : (Tryz.t44).bytes = 88 := by kernel_rfl
      rw [this]; omega
    · rintro e w' ⟨h1, h2⟩
      refine ⟨_, h1, ?_, ?_⟩
      · rw [h2]
        refine ⟨by simp [El.encs], .inr ⟨w.heap.size, _, _, rfl, Nat.le_refl _, heap_alloc_new _ _, Nat.zero_le _, grownCap_le_maxLen _ _ _ _ (by unfold maxLen; omega), ?_, by simp [El.encs]⟩⟩
        have hc := grownCap_ge w (0 + n) 0 44
        have h11 : (spv 0 0 0 ⟨#[]⟩ 0 0 0 ⟨#[]⟩ false false false).cells.size = 11 := rfl
        rw [Array.size_append, Array.size_append, size_zeroCells, size_zeroCells, h11]
        show 0 + (0 + n - 0) * 11 + (grownCap w (0 + n) 0 44 - (0 + n)) * 11 = grownCap w (0 + n) 0 44 * 11
        omega
      · rw [h2]; exact ((RowKit.Below.refl _ _).drew).alloc (Nat.le_refl _) _

theorem flat_take (ls : List (List Sp.S)) (k : Nat) (h : k < ls.length) : (ls.take (k + 1)).flatten = (ls.take k).flatten ++ ls[k] := by
  rw [List.take_succ_eq_append_getElem h, List.flatten_append]; simp
theorem flat_le (ls : List (List Sp.S)) (k : Nat) : (ls.take k).flatten.length ≤ ls.flatten.length := by
  have : ls.flatten = (ls.take k).flatten ++ (ls.drop k).flatten := by rw [← List.flatten_append, List.take_append_drop]
  rw [this, List.length_append]; omega
set_option maxHeartbeats 8000000 in
theorem concat_any (a : Option Addr) (n cap : Nat) (ls : List (List Sp.S)) (w : World) (hr : RRow w a n ls) (hn : n ≤ 9000) (hs : ls.flatten.length ≤ 90000) :
    Calls Tryz.prog 36 #[.slice a n cap] w fun e w' => ∃ v, e = .returned v ∧ EOwn ES w' w.heap.size v ls.flatten ∧ RowKit.Below w.heap.size w w' := by
  obtain ⟨ts, hts, hea⟩ := hr.ex
  have hlt := hts.n
  have hll : ls.length = n := by rw [← hea.len]; exact hlt
  have HT := hide hts
  have HE := hide hea
  have HG : Hid (∀ m : Nat, m ≤ 90000 → ∀ W, Calls Tryz.prog 62 #[.slice none 0 0, .int .i64 m] W fun e w' => ∃ v, e = .returned v ∧ EOwn ES w' W.heap.size v [] ∧ RowKit.Below W.heap.size W w') := fun m hm W => grow_nil m W (by omega)
  clear hts hea hr
  go_enter Tryz.func36, Tryz.ntmps36
  go_wp2_with fail
  go_loop [3, 11] (fun s i => ∃ (k m : Nat), k ≤ n ∧ i = .int .i64 k ∧ s = .int .i64 m ∧ Hid (m = (ls.take k).flatten.length)) (fun _ i => n - (RowKit.intOf i).toNat)
  case atStart => exact ⟨0, 0, by omega, rfl, rfl, by show _ = _; simp⟩
  case round =>
    obtain ⟨k, m, hk, rfl, rfl, HM⟩ := hrel
    have hm9 : m ≤ 90000 := by have := flat_le ls k; have := HM.out; omega
    by_cases hlt' : k < n
    · obtain ⟨b, off, rfl⟩ := HT.out.spot (by omega)
      have h1 : k < ts.length := by omega
      have h2 : k < ls.length := by omega
      have hc := HT.out.at_ k ts[k] (List.getElem?_eq_getElem h1) 0 _ rfl
      have hre := HE.out.at_ k h1 h2
      have hc' : w.cell? ⟨b, off + k, none⟩ = some ts[k].val := by
        have e : off + k * ER.k + 0 = off + k := by show off + k * 1 + 0 = off + k; omega
        rw [e] at hc; exact hc
      have hlen := hre.n
      have HM2 : Hid (m + ts[k].n = (ls.take (k + 1)).flatten.length) := by
        show _ = _
        rw [flat_take ls k h2, List.length_append, ← HM.out, hlen]
      have hm10 : m + ts[k].n ≤ 90000 := by have := flat_le ls (k + 1); have := HM2.out; omega
      clear hre hc HM
      generalize ts[k] = t at *
      obtain ⟨ta, tn, tc⟩ := t
      have i1 : (0 : Int) ≤ (k : Int) := by omega
      have i2 : (k : Int) < (n : Int) := by omega
      simp only at hm10 HM2
      have w1 : wrap64 ((m : Int) + (tn : Int)) = (m : Int) + (tn : Int) := by unfold wrap64; omega
      have w2 : ¬ ((m : Int) + (tn : Int) < 0) := by omega
      go_wp2_with fail
      exact ⟨⟨k + 1, m + tn, by omega, by go_num, by go_num, HM2⟩, by simp [RowKit.intOf]; omega⟩
    · have hd : decide ((k : Int) < (n : Int)) = false := by simp; omega
      go_wp2_with fail
      refine (HG.out m hm9 _).mono ?_
      rintro e w1 ⟨v1, rfl, o1, b1⟩
      clear HG hd hlt' HM
      go_wp2_with fail
      go_loopw [6, 27] (fun o i wr => ∃ j : Nat, j ≤ n ∧ i = .int .i64 j ∧ EOwn ES wr w.heap.size o (ls.take j).flatten ∧ RowKit.Below w.heap.size w wr) (fun _ i _ => n - (RowKit.intOf i).toNat)
      case atStart => exact ⟨0, by omega, rfl, by simpa using o1, b1⟩
      case round =>
        obtain ⟨j, hj, rfl, o2, hB⟩ := hrel
        by_cases hlt2 : j < n
        · obtain ⟨b, off, rfl⟩ := HT.out.spot (by omega)
          have h1 : j < ts.length := by omega
          have h2 : j < ls.length := by omega
          have hc := (HT.out.later hB).at_ j ts[j] (List.getElem?_eq_getElem h1) 0 _ rfl
          have hre := (HE.out.later hB).at_ j h1 h2
          have hc' : wr.cell? ⟨b, off + j, none⟩ = some ts[j].val := by
            have e : off + j * ER.k + 0 = off + j := by show off + j * 1 + 0 = off + j; omega
            rw [e] at hc; exact hc
          have hft := hide (flat_take ls j h2)
          have hlen : (ls.take j).flatten.length + ts[j].n ≤ 100000 := by
            have := flat_le ls (j + 1)
            rw [hft.out, List.length_append, hre.n] at this
            omega
          clear hc
          generalize ts[j] = t at *
          generalize ls[j] = lj at *
          obtain ⟨ta, tn, tc⟩ := t
          have i1 : (0 : Int) ≤ (j : Int) := by omega
          have i2 : (j : Int) < (n : Int) := by omega
          have HRE := hide hre
          have HO := hide o2
          have HBr := hide hB
          clear hre o2 hB
          go_wp2_with (refine wpList_eapp ES rfl _ _ rfl w.heap.size _ ((ls.take j).flatten) ta tn tc lj rfl rfl HO.out HRE.out hlen HBr.out.size ?_; intro v' w3 o3 g3 t3)
          go_roundw
          case rel => exact ⟨j + 1, by omega, by go_num, by rw [hft.out]; exact o3, HBr.out.grown g3 HBr.out.size (fun q e => (HO.out.low q e).1)⟩
          case measure => simp [RowKit.intOf]; omega
        · have hd : decide ((j : Int) < (n : Int)) = false := by simp; omega
          have e : ls.take j = ls := List.take_of_length_le (by omega)
          rw [e] at o2
          have HO := hide o2
          clear o2
          go_wp2_with fail
          go_ret
          exact ⟨_, rfl, HO.out, hB⟩
end Go.Proofs.YthihnpjbdjmbhaaGreatDoor
