/-
  Rows of versions: an own row of versions in memory, append onto it as one law, its pieces.
-/
import Derived.Test.YtiicikieemfcmaaGreatDoorU20
import Derived.Test.YtiicikieemfcmaaGreatDoorU24
import Derived.Deep.DeepCutAuto
import Derived.Deep.RegionLaw
import Derived.Maps.AppendAt
namespace Go.Proofs.YtiicikieemfcmaaGreatDoor
set_option linter.unusedSimpArgs false
set_option linter.unusedVariables false
open Go.RowKit Go.Vr Go.Sort Go.Tx Go.Lib

/-- A version's cells. -/
def encV (v : V) : List Value := [.int .i64 v.a, .int .i64 v.b, .int .i64 v.c, .string v.p]
def encs (vs : List V) : List Value := vs.flatMap encV
theorem encs_len : ∀ vs : List V, (encs vs).length = vs.length * 4
  | [] => rfl
  | x :: r => by
    have := encs_len r
    show (encV x ++ encs r).length = _
    rw [List.length_append, this, List.length_cons]
    show 4 + _ = _
    omega
theorem encs_app (l k : List V) : encs (l ++ k) = encs l ++ encs k := by unfold encs; rw [List.flatMap_append]
theorem encs_one (vs : List V) : ∀ u ∈ encs vs, u.oneCell' = true := by
  intro u hu
  unfold encs at hu
  rw [List.mem_flatMap] at hu
  obtain ⟨v, _, hu⟩ := hu
  unfold encV at hu
  simp only [List.mem_cons, List.not_mem_nil, or_false] at hu
  rcases hu with rfl | rfl | rfl | rfl <;> rfl
theorem encs_at : ∀ (vs : List V) (j i : Nat), j < vs.length → i < 4 → (encs vs)[j * 4 + i]? = (encV (vs.getD j V.zero))[i]?
  | [], _, _, h, _ => by simp at h
  | x :: r, 0, i, _, hi => by
    show (encV x ++ encs r)[0 * 4 + i]? = _
    rw [List.getElem?_append_left (by show 0 * 4 + i < 4; omega), Nat.zero_mul, Nat.zero_add]
    rfl
  | x :: r, j + 1, i, h, hi => by
    have := encs_at r j i (by simpa using h) hi
    show (encV x ++ encs r)[(j + 1) * 4 + i]? = _
    rw [List.getElem?_append_right (by show 4 ≤ _; omega)]
    have e : (j + 1) * 4 + i - (encV x).length = j * 4 + i := by show (j + 1) * 4 + i - 4 = _; omega
    rw [e, this]
    simp [List.getD]

/-- A slice of versions that is there. -/
structure VRow (w : World) (a : Option Addr) (len : Nat) (vs : List V) : Prop where
  n : vs.length = len
  nil : a = none → len = 0
  cell : ∀ x, a = some x → ∀ j v, (encs vs)[j]? = some v → w.cell? (x.add j) = some v
theorem VRow.later {w w' : World} {a : Option Addr} {len : Nat} {vs : List V} (h : VRow w a len vs) (hb : Below w.heap.size w w') : VRow w' a len vs :=
  ⟨h.n, h.nil, fun x e j v hj => cellLater hb (h.cell x e j v hj)⟩
theorem VRow.at_ {w : World} {a : Option Addr} {len : Nat} {vs : List V} (h : VRow w a len vs) (h0 : 0 < len) : ∃ b off, a = some ⟨b, off, none⟩ ∧ ∀ j, j < len → VerAt w b (off + j * 4) (vs.getD j V.zero) := by
  cases a with
  | none => have := h.nil rfl; omega
  | some x =>
    obtain ⟨b, off, spot⟩ := x
    have hk : ∀ (j i : Nat) (hj : j < len) (hi : i < 4) (v : Value), (encV (vs.getD j V.zero))[i]? = some v → w.cell? ((⟨b, off, spot⟩ : Addr).add (j * 4 + i)) = some v := by
      intro j i hj hi v hv
      exact h.cell _ rfl _ v (by rw [encs_at vs j i (by rw [h.n]; exact hj) hi]; exact hv)
    have hspot : spot = none := by simpa [Addr.add] using World.cell?_spot (hk 0 0 h0 (by decide) _ rfl)
    subst hspot
    refine ⟨b, off, rfl, fun j hj => ⟨?_, ?_, ?_, ?_⟩⟩
    · have := hk j 0 hj (by decide) _ rfl; rw [addr_add] at this; exact this
    · have := hk j 1 hj (by decide) _ rfl; rw [addr_add] at this; rw [Nat.add_assoc]; exact this
    · have := hk j 2 hj (by decide) _ rfl; rw [addr_add] at this; rw [Nat.add_assoc]; exact this
    · have := hk j 3 hj (by decide) _ rfl; rw [addr_add] at this; rw [Nat.add_assoc]; exact this
theorem VRow.of_at {w : World} {b off len : Nat} {vs : List V} (hn : vs.length = len) (h : ∀ j, j < len → VerAt w b (off + j * 4) (vs.getD j V.zero)) : VRow w (some ⟨b, off, none⟩) len vs := by
  refine ⟨hn, (fun e => nomatch e), fun x e k v hk => ?_⟩
  obtain rfl : ⟨b, off, none⟩ = x := by simpa using e
  have hlt : k < vs.length * 4 := by rw [← encs_len]; exact (List.getElem?_eq_some_iff.1 hk).1
  have hj : k / 4 < vs.length := by omega
  have hi : k % 4 < 4 := Nat.mod_lt _ (by decide)
  have hkk : k = k / 4 * 4 + k % 4 := by omega
  obtain ⟨c0, c1, c2, c3⟩ := h (k / 4) (by omega)
  rw [hkk, encs_at vs _ _ hj hi] at hk
  rw [hkk, addr_add]
  generalize k / 4 = j at *
  generalize k % 4 = i at *
  have hc : i = 0 ∨ i = 1 ∨ i = 2 ∨ i = 3 := by omega
  rcases hc with rfl | rfl | rfl | rfl
  · obtain rfl : Value.int .i64 (vs.getD j V.zero).a = v := by simpa [encV] using hk
    exact c0
  · obtain rfl : Value.int .i64 (vs.getD j V.zero).b = v := by simpa [encV] using hk
    rw [← Nat.add_assoc]; exact c1
  · obtain rfl : Value.int .i64 (vs.getD j V.zero).c = v := by simpa [encV] using hk
    rw [← Nat.add_assoc]; exact c2
  · obtain rfl : Value.string (vs.getD j V.zero).p = v := by simpa [encV] using hk
    rw [← Nat.add_assoc]; exact c3

theorem infoV : Tryz.prog.info? 24 = some Tryz.t24 := by kernel_rfl
theorem vnone (w : World) : VRow w none 0 [] := ⟨rfl, fun _ => rfl, fun _ e => nomatch e⟩
theorem vown_row {w : World} {B g n cap : Nat} {ts : List V} (h : w.ownsRow B 24 4 (.slice (some ⟨g, 0, none⟩) n cap) n (encs ts)) : VRow w (some ⟨g, 0, none⟩) n ts :=
  ⟨by have := h.1; rw [encs_len] at this; omega, (fun e => nomatch e), fun x e j v hj => (show (⟨g, 0, none⟩ : Addr) = x by simpa using e) ▸ h.cells rfl j v hj⟩
theorem vapp_run {w : World} {B n : Nat} {v : Value} {ts : List V} (ty : TypeId) (hown : w.ownsRow B 24 4 v n (encs ts)) (ad : Option Addr) (m c : Nat) (us : List V) (hs : VRow w ad m us) (hn : n + m ≤ 10000) (hb : B ≤ w.heap.size) :
    ∃ v' w', (Builtin.append_ #[39, 39] ty #[v, .slice ad m c]).run Tryz.prog w = .ok v' w' ∧ w'.ownsRow B 24 4 v' (n + m) (encs (ts ++ us)) ∧ w.grownBy w' v.ownBlock ∧ (v'.ownBlock = v.ownBlock ∨ v'.ownBlock = some w.heap.size) := by
  have ht : Tryz.prog.underlying 39 = some (.slice 24) := Tryz.underlying39
  cases ad with
  | some x =>
    obtain ⟨v', w', h1, h2, h3, _, h5⟩ := run_append_own_at (P := Tryz.prog) w B 39 ty 24 Tryz.t24 (.agg #[.int .i64 0, .int .i64 0, .int .i64 0, .string ⟨#[]⟩]) 4 40 ht infoV (by kernel_rfl) (by kernel_rfl) (by kernel_rfl) (by kernel_rfl) (by decide) v n (encs ts) hown x m c (encs us) (by rw [encs_len, hs.n]) (hs.cell x rfl) (encs_one us) (by unfold maxLen; omega) (by omega) hb
    exact ⟨v', w', h1, by rw [encs_app]; exact h2, h3, h5⟩
  | none =>
    obtain rfl := hs.nil rfl
    have hu : us = [] := List.eq_nil_of_length_eq_zero hs.n
    subst hu
    refine ⟨v, w, ?_, by simpa using hown, ⟨rfl, rfl, rfl, Nat.le_refl _, fun _ _ _ => rfl⟩, .inl rfl⟩
    rcases hown.2 with ⟨rfl, rfl⟩ | ⟨g, cap, cur, rfl, _, hg, hnc, _, _, _⟩
    · simp [Builtin.append_, run_underlying ht, sizeOf, typeInfo, infoV, Builtin.lenOf, Builtin.firstCells, loadCells, loadCellsFrom]
    · simp [Builtin.append_, run_underlying ht, sizeOf, typeInfo, infoV, Builtin.lenOf, Builtin.firstCells, loadCells, loadCellsFrom, hnc, storeCells]

/-- At the operation. -/
theorem wp_vapp {w : World} {o : Oper} {a : Act} {K : Act → World → Prop} {Q : Exit → Act → World → Prop} (s x : Operand) (ho : o.op = .call { callee := .builtin .append, args := #[s, x], argTypes := #[39, 39] })
    (B n : Nat) (v : Value) (ts : List V) (ad : Option Addr) (m c : Nat) (us : List V) (hv : a.eval s = v) (hx : a.eval x = .slice ad m c) (hown : w.ownsRow B 24 4 v n (encs ts)) (hs : VRow w ad m us) (hn : n + m ≤ 10000) (hb : B ≤ w.heap.size)
    (h : ∀ v' w', w'.ownsRow B 24 4 v' (n + m) (encs (ts ++ us)) → w.grownBy w' v.ownBlock → (v'.ownBlock = v.ownBlock ∨ v'.ownBlock = some w.heap.size) → K (a.put o.dst v') w') : o.wp Tryz.prog a w K Q := by
  obtain ⟨v', w', hr, h2, h3, h4⟩ := vapp_run o.type hown ad m c us hs hn hb
  unfold Oper.wp execOp
  simp only [ho, resolve, invoke, builtin, Sem.run_bind, Sem.run_pure, Result.andThen_ok, List.map_toArray, List.map_cons, List.map_nil, hv, hx, hr]
  exact h v' w' h2 h3 h4
theorem step_vapp {w : World} {ops : Array Oper} {o : Oper} {a : Act} {K : Act → World → Prop} {Q : Exit → Act → World → Prop} {E : Prop} (hw : Region.wanted o (yielded ops a.tmps) = true) (s x : Operand) (ho : o.op = .call { callee := .builtin .append, args := #[s, x], argTypes := #[39, 39] })
    (B n : Nat) (v : Value) (ts : List V) (ad : Option Addr) (m c : Nat) (us : List V) (hv : a.eval s = v) (hx : a.eval x = .slice ad m c) (hown : w.ownsRow B 24 4 v n (encs ts)) (hs : VRow w ad m us) (hn : n + m ≤ 10000) (hb : B ≤ w.heap.size)
    (h : ∀ v' w', w'.ownsRow B 24 4 v' (n + m) (encs (ts ++ us)) → w.grownBy w' v.ownBlock → (v'.ownBlock = v.ownBlock ∨ v'.ownBlock = some w.heap.size) → K (a.put o.dst v') w') :
    if Region.wanted o (yielded ops a.tmps) = true then Oper.wp Tryz.prog o a w K Q else E := by
  rw [if_pos hw]
  exact wp_vapp s x ho B n v ts ad m c us hv hx hown hs hn hb h

theorem vown_form {w : World} {B n : Nat} {v : Value} {ts : List V} (h : w.ownsRow B 24 4 v n (encs ts)) : (v = .slice none 0 0 ∧ n = 0) ∨ ∃ g cap, v = .slice (some ⟨g, 0, none⟩) n cap ∧ B ≤ g ∧ n ≤ cap ∧ cap ≤ maxLen ∧ VRow w (some ⟨g, 0, none⟩) n ts := by
  rcases h.2 with h' | ⟨g, cap, cur, rfl, hb, hg, hnc, hcm, _⟩
  · exact .inl h'
  · exact .inr ⟨g, cap, rfl, hb, hnc, hcm, vown_row h⟩
theorem vown_len {w : World} {B n : Nat} {v : Value} {ts : List V} (h : w.ownsRow B 24 4 v n (encs ts)) : ts.length = n := by have := h.1; rw [encs_len] at this; omega
theorem vown_any {w : World} {B n : Nat} {v : Value} {ts : List V} (h : w.ownsRow B 24 4 v n (encs ts)) : ∃ ad cap, v = .slice ad n cap ∧ n ≤ cap ∧ VRow w ad n ts := by
  rcases vown_form h with ⟨rfl, rfl⟩ | ⟨g, cap, rfl, _, hnc, _, hr⟩
  · have : ts = [] := List.eq_nil_of_length_eq_zero (vown_len h)
    subst this
    exact ⟨none, 0, rfl, Nat.le_refl _, vnone w⟩
  · exact ⟨_, cap, rfl, hnc, hr⟩
theorem vown_later {w w' : World} {B n s : Nat} {T : TypeId} {v : Value} {xs : List Value} (h : w.ownsRow B T s v n xs) (hb : Below w.heap.size w w') : w'.ownsRow B T s v n xs := by
  refine ⟨h.1, ?_⟩
  rcases h.2 with h' | ⟨g, cap, cur, e, h1, h2, h3⟩
  · exact .inl h'
  · exact .inr ⟨g, cap, cur, e, h1, by rw [hb.block g (Array.getElem?_eq_some_iff.1 h2).1]; exact h2, h3⟩
theorem vbel_app {B s : Nat} {a w w' : World} {T : TypeId} {v : Value} {n : Nat} {xs : List Value} (h : Below B a w) (ho : w.ownsRow B T s v n xs) (hg : w.grownBy w' v.ownBlock) (hB : B ≤ w.heap.size) : Below B a w' := h.grown hg hB (fun k e => (ho.lt k e).1)
theorem vfresh {w : World} {B g : Nat} (hg : w.heap[g]? = some (.cells #[] 24 (0, 0))) (hb : B ≤ g) : w.ownsRow B 24 4 (.slice (some ⟨g, 0, none⟩) 0 0) 0 (encs []) :=
  ⟨rfl, .inr ⟨g, 0, #[], rfl, hb, hg, Nat.le_refl _, Nat.zero_le _, rfl, rfl⟩⟩
theorem vrow_pre {w : World} {g o n : Nat} {ts : List V} (h : VRow w (some ⟨g, o, none⟩) n ts) (j : Nat) (hj : j ≤ n) : VRow w (some ⟨g, o, none⟩) j (ts.take j) := by
  have hn := h.n
  refine ⟨by rw [List.length_take, hn]; omega, (fun e => nomatch e), fun x e i v hi => h.cell x e i v ?_⟩
  have e2 : encs ts = encs (ts.take j) ++ encs (ts.drop j) := by rw [← encs_app, List.take_append_drop]
  rw [e2, List.getElem?_append_left (List.getElem?_eq_some_iff.1 hi).1]
  exact hi
theorem vrow_suf {w : World} {g n : Nat} {ts : List V} (h : VRow w (some ⟨g, 0, none⟩) n ts) (j : Nat) (hj : j ≤ n) : VRow w (some ⟨g, j * 4, none⟩) (n - j) (ts.drop j) := by
  have hn := h.n
  refine ⟨by rw [List.length_drop, hn], (fun e => nomatch e), fun x e i v hi => ?_⟩
  obtain rfl : ⟨g, j * 4, none⟩ = x := by simpa using e
  have e2 : encs ts = encs (ts.take j) ++ encs (ts.drop j) := by rw [← encs_app, List.take_append_drop]
  have hl : (encs (ts.take j)).length = j * 4 := by rw [encs_len, List.length_take, hn, Nat.min_eq_left hj]
  have hc := h.cell _ rfl (j * 4 + i) v (by rw [e2, List.getElem?_append_right (by omega), hl, Nat.add_sub_cancel_left]; exact hi)
  rw [addr_add] at hc ⊢
  rw [Nat.zero_add] at hc
  exact hc
/-- l[j:], as the program has it: where nothing of the capacity is left it stays at the row's begin. -/
theorem vrow_tail {w : World} {g n cap : Nat} {ts : List V} (h : VRow w (some ⟨g, 0, none⟩) n ts) (j : Nat) (hj : j ≤ n) (hc : n ≤ cap) : VRow w (if cap = j then some ⟨g, 0, none⟩ else some ⟨g, j * 4, none⟩) (n - j) (ts.drop j) := by
  by_cases e : cap = j
  · rw [if_pos e]
    have hn := h.n
    have hd : ts.drop j = [] := List.drop_eq_nil_of_le (by omega)
    rw [hd]
    exact ⟨by simp; omega, (fun e => nomatch e), fun x _ i v hi => by simp [encs] at hi⟩
  · rw [if_neg e]
    exact vrow_suf h j hj
theorem vone {w : World} {h : Nat} {x : V} (hc : VerAt w h 0 x) : VRow w (some ⟨h, 0, none⟩) 1 [x] := by
  refine VRow.of_at rfl fun j hj => ?_
  obtain rfl : j = 0 := by omega
  exact hc
theorem vone_new (w : World) (x : V) : VRow (w.alloc (.cells #[.int .i64 x.a, .int .i64 x.b, .int .i64 x.c, .string x.p] 24)) (some ⟨w.heap.size, 0, none⟩) 1 [x] :=
  vone ⟨by simp [go_sem], by simp [go_sem], by simp [go_sem], by simp [go_sem]⟩

/-- The greatest of a row, whatever its address. -/
theorem max_row {a : Option Addr} {n : Nat} (cap : Nat) {vs : List V} {w : World} (h : VRow w a n vs) (h0 : 0 < n) (h1 : n ≤ 1000) (ho : ∀ v ∈ vs, v.ok = true) (he : Env w) :
    Calls Tryz.prog 27 #[.slice a n cap] w fun e w' => e = .returned (val (maxV vs)) ∧ Below w.heap.size w w' := by
  obtain ⟨b, off, rfl, hc⟩ := h.at_ h0
  exact max_any b off n cap vs w h.n h0 h1 hc ho he
theorem rmax_row {a : Option Addr} {n : Nat} (cap : Nat) {vs : List V} {w : World} (h : VRow w a n vs) (h0 : 0 < n) (h1 : n ≤ 1000) (ho : ∀ v ∈ vs, v.ok = true) :
    Calls Tryz.prog 28 #[.slice a n cap] w fun e w' => e = .returned (val (maxV vs)) ∧ Below w.heap.size w w' := by
  obtain ⟨b, off, rfl, hc⟩ := h.at_ h0
  exact rmax_any b off n cap vs w h.n h1 hc ho

end Go.Proofs.YtiicikieemfcmaaGreatDoor
