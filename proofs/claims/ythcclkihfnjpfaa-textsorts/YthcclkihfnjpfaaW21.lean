/-
  append onto a slice of texts that the call owns, out of any slice of texts.
-/
import Derived.Test.YthcclkihfnjpfaaW20
import Derived.Maps.AppendAt
set_option linter.unusedSimpArgs false
namespace Go.Proofs.Ythcclkihfnjpfaa
set_option linter.unusedVariables false
open Go.RowKit Go.Tx Go.Sort

theorem SRow.later {w w' : World} {a : Option Addr} {len cap : Nat} {ss : List (List UInt8)} (h : SRow w a len cap ss) (hb : Below w.heap.size w w') : SRow w' a len cap ss :=
  ⟨h.n, h.nil, fun x e j v hj => cell_later hb (h.cell x e j v hj)⟩

theorem own_row {w : World} {B g n cap : Nat} {ts : List (List UInt8)} (h : w.ownsRow B 9 1 (.slice (some ⟨g, 0, none⟩) n cap) n (ts.map encStr)) : SRow w (some ⟨g, 0, none⟩) n cap ts :=
  ⟨by have := h.1; simpa using this, (fun e => nomatch e), fun x e j v hj => (show (⟨g, 0, none⟩ : Addr) = x by simpa using e) ▸ h.cells rfl j v hj⟩

theorem app_run {w : World} {B n : Nat} {v : Value} {ts : List (List UInt8)} (ty : TypeId) (hown : w.ownsRow B 9 1 v n (ts.map encStr)) (ad : Option Addr) (m c : Nat) (us : List (List UInt8)) (hs : SRow w ad m c us) (hn : n + m ≤ 10000) (hb : B ≤ w.heap.size) :
    ∃ v' w', (Builtin.append_ #[25, 25] ty #[v, .slice ad m c]).run Try.prog w = .ok v' w' ∧ w'.ownsRow B 9 1 v' (n + m) ((ts ++ us).map encStr) ∧ w.grownBy w' v.ownBlock ∧ (v'.ownBlock = v.ownBlock ∨ v'.ownBlock = some w.heap.size) := by
  have ht : Try.prog.underlying 25 = some (.slice 9) := Try.underlying25
  cases ad with
  | some x =>
    obtain ⟨v', w', h1, h2, h3, _, h5⟩ := run_append_own_at (P := Try.prog) w B 25 ty 9 Try.t9 (.string ⟨#[]⟩) 1 16 ht infoS rfl rfl rfl rfl (by decide) v n (ts.map encStr) hown x m c (us.map encStr) (by simp [hs.n]) (hs.cell x rfl) (enc_one us) (by unfold maxLen; omega) (by omega) hb
    exact ⟨v', w', h1, by rw [List.map_append]; exact h2, h3, h5⟩
  | none =>
    obtain rfl := hs.nil rfl
    have hu : us = [] := List.eq_nil_of_length_eq_zero hs.n
    subst hu
    refine ⟨v, w, ?_, by simpa using hown, ⟨rfl, rfl, rfl, Nat.le_refl _, fun _ _ _ => rfl⟩, .inl rfl⟩
    rcases hown.2 with ⟨rfl, rfl⟩ | ⟨g, cap, cur, rfl, _, hg, hnc, _, _, _⟩
    · simp [Builtin.append_, run_underlying ht, sizeOf, typeInfo, infoS, Builtin.lenOf, Builtin.firstCells, loadCells, loadCellsFrom]
    · simp [Builtin.append_, run_underlying ht, sizeOf, typeInfo, infoS, Builtin.lenOf, Builtin.firstCells, loadCells, loadCellsFrom, hnc, storeCells]

/-- At the operation. -/
theorem wp_app {w : World} {o : Oper} {a : Act} {K : Act → World → Prop} {Q : Exit → Act → World → Prop} (s x : Operand) (ho : o.op = .call { callee := .builtin .append, args := #[s, x], argTypes := #[25, 25] })
    (B n : Nat) (v : Value) (ts : List (List UInt8)) (ad : Option Addr) (m c : Nat) (us : List (List UInt8)) (hv : a.eval s = v) (hx : a.eval x = .slice ad m c) (hown : w.ownsRow B 9 1 v n (ts.map encStr)) (hs : SRow w ad m c us) (hn : n + m ≤ 10000) (hb : B ≤ w.heap.size)
    (h : ∀ v' w', w'.ownsRow B 9 1 v' (n + m) ((ts ++ us).map encStr) → w.grownBy w' v.ownBlock → (v'.ownBlock = v.ownBlock ∨ v'.ownBlock = some w.heap.size) → K (a.put o.dst v') w') : o.wp Try.prog a w K Q := by
  obtain ⟨v', w', hr, h2, h3, h4⟩ := app_run o.type hown ad m c us hs hn hb
  unfold Oper.wp execOp
  simp only [ho, resolve, invoke, builtin, Sem.run_bind, Sem.run_pure, Result.andThen_ok, List.map_toArray, List.map_cons, List.map_nil, hv, hx, hr]
  exact h v' w' h2 h3 h4

theorem step_app {w : World} {ops : Array Oper} {o : Oper} {a : Act} {K : Act → World → Prop} {Q : Exit → Act → World → Prop} {E : Prop} (hw : Region.wanted o (yielded ops a.tmps) = true) (s x : Operand) (ho : o.op = .call { callee := .builtin .append, args := #[s, x], argTypes := #[25, 25] })
    (B n : Nat) (v : Value) (ts : List (List UInt8)) (ad : Option Addr) (m c : Nat) (us : List (List UInt8)) (hv : a.eval s = v) (hx : a.eval x = .slice ad m c) (hown : w.ownsRow B 9 1 v n (ts.map encStr)) (hs : SRow w ad m c us) (hn : n + m ≤ 10000) (hb : B ≤ w.heap.size)
    (h : ∀ v' w', w'.ownsRow B 9 1 v' (n + m) ((ts ++ us).map encStr) → w.grownBy w' v.ownBlock → (v'.ownBlock = v.ownBlock ∨ v'.ownBlock = some w.heap.size) → K (a.put o.dst v') w') :
    if Region.wanted o (yielded ops a.tmps) = true then Oper.wp Try.prog o a w K Q else E := by
  rw [if_pos hw]
  exact wp_app s x ho B n v ts ad m c us hv hx hown hs hn hb h

theorem wpList_app {w : World} {ops : Array Oper} {rest : List Oper} {o : Oper} {a : Act} {Q : Exit → Act → World → Prop} (hw : Region.wanted o (yielded ops a.tmps) = true) (s x : Operand) (ho : o.op = .call { callee := .builtin .append, args := #[s, x], argTypes := #[25, 25] })
    (B n : Nat) (v : Value) (ts : List (List UInt8)) (ad : Option Addr) (m c : Nat) (us : List (List UInt8)) (hv : a.eval s = v) (hx : a.eval x = .slice ad m c) (hown : w.ownsRow B 9 1 v n (ts.map encStr)) (hs : SRow w ad m c us) (hn : n + m ≤ 10000) (hb : B ≤ w.heap.size)
    (h : ∀ v' w', w'.ownsRow B 9 1 v' (n + m) ((ts ++ us).map encStr) → w.grownBy w' v.ownBlock → (v'.ownBlock = v.ownBlock ∨ v'.ownBlock = some w.heap.size) → wpList Try.prog ops Q rest (a.put o.dst v') w') : wpList Try.prog ops Q (o :: rest) a w :=
  wpList_step fun K hK => step_app hw s x ho B n v ts ad m c us hv hx hown hs hn hb fun v' w' h1 h2 h3 => hK _ _ (h v' w' h1 h2 h3)

end Go.Proofs.Ythcclkihfnjpfaa
