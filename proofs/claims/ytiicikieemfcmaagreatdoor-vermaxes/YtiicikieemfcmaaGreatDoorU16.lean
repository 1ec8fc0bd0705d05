/-
  Contract of known.
-/
import Derived.Test.YtiicikieemfcmaaGreatDoorU14
import Derived.Test.YtiicikieemfcmaaGreatDoorU15
namespace Go.Proofs.YtiicikieemfcmaaGreatDoor
set_option linter.unusedSimpArgs false
set_option linter.unusedVariables false
open Go.RowKit Go.Vr Go.Sort Go.Tx Go.Lib
attribute [local go_sem] setCellDrewN allocDrewN

/-- The chapter's example: v1.2.3. -/
def kv : V := ⟨1, 2, 3, ⟨#[]⟩⟩
/-- What is behind it. -/
def kp : ByteArray := ⟨#[48, 46, 48, 48, 48, 48, 48, 48, 48, 48, 48, 48, 48, 48, 48, 53, 45, 48, 49, 50, 51, 52, 53, 54, 55, 56, 57, 97, 98]⟩
theorem k_parse : parse (ByteArray.mk #[118, 49, 46, 50, 46, 51]).data.toList = some kv := by decide +kernel
theorem k_ok : kv.ok = true := by decide +kernel
theorem k_txt : str (txt kv) = ⟨#[118, 49, 46, 50, 46, 51]⟩ := by decide +kernel
theorem k_pver : pver true kv 5 (ByteArray.mk #[48, 49, 50, 51, 52, 53, 54, 55, 56, 57, 97, 98, 99, 100, 101, 102]).data.toList = ⟨1, 2, 4, kp⟩ := by decide +kernel
theorem k_pok : V.ok ⟨1, 2, 4, kp⟩ = true := by decide +kernel
theorem k_pseudo : pseudo true kv 5 (ByteArray.mk #[48, 49, 50, 51, 52, 53, 54, 55, 56, 57, 97, 98, 99, 100, 101, 102]).data.toList = some ⟨1, 2, 4, kp⟩ := by decide +kernel
theorem k_behind : behind kp.data.toList = some (5, [48, 49, 50, 51, 52, 53, 54, 55, 56, 57, 97, 98]) := by decide +kernel
theorem k_cmp : cmpV kv ⟨1, 2, 4, kp⟩ = -1 := by decide +kernel
theorem k_max : maxV [kv, ⟨1, 2, 4, kp⟩] = ⟨1, 2, 4, kp⟩ := by decide +kernel


set_option maxHeartbeats 4000000 in
set_option maxRecDepth 100000 in
theorem known_any (w : World) (he : Env w) :
    Calls Tryz.prog 16 #[] w fun e w' => e = .returned (.bool true) ∧ Below w.heap.size w w' := by
  have HE := hide he
  clear he
  have CP := hide (parse_any ⟨#[118, 49, 46, 50, 46, 51]⟩ w (by decide) HE.out)
  rw [k_parse] at CP
  have CS : Hid (∀ W, Env W → Calls Tryz.prog 29 #[.bool true, val kv, .int .i64 5, .string ⟨#[48, 49, 50, 51, 52, 53, 54, 55, 56, 57, 97, 98, 99, 100, 101, 102]⟩] W fun e w' => e = .returned (pret (some ⟨1, 2, 4, kp⟩)) ∧ Below W.heap.size W w') := fun W hW => by
    have := pseudo_any true kv 5 ⟨#[48, 49, 50, 51, 52, 53, 54, 55, 56, 57, 97, 98, 99, 100, 101, 102]⟩ W (by decide) (by decide) (by decide) (by decide) (by decide) hW
    rw [k_pseudo] at this; exact this
  have CB : Hid (∀ W, Env W → Calls Tryz.prog 31 #[val ⟨1, 2, 4, kp⟩] W fun e w' => e = .returned (.tuple #[.int .i64 5, .string ⟨#[48, 49, 50, 51, 52, 53, 54, 55, 56, 57, 97, 98]⟩, .bool true]) ∧ Below W.heap.size W w') := fun W hW => by
    have := behindV_any ⟨1, 2, 4, kp⟩ W (by decide) hW
    rw [k_behind] at this; exact this
  have CT : Hid (∀ W, Env W → Calls Tryz.prog 18 #[val kv] W fun e w' => e = .returned (.string ⟨#[118, 49, 46, 50, 46, 51]⟩) ∧ Below W.heap.size W w') := fun W hW => by
    have := text_any kv W k_ok hW
    rw [k_txt] at this; exact this
  have CC : Hid (∀ W, Env W → Calls Tryz.prog 25 #[val kv, val ⟨1, 2, 4, kp⟩] W fun e w' => e = .returned (.int .i64 (-1)) ∧ Below W.heap.size W w') := fun W hW => by
    have := cmp_any kv ⟨1, 2, 4, kp⟩ W k_ok k_pok hW
    rw [k_cmp] at this; exact this
  have CM : Hid (∀ W, Env W → Calls Tryz.prog 27 #[.slice (some ⟨W.heap.size, 0, none⟩) 2 2] (W.alloc (.cells #[.int .i64 1, .int .i64 2, .int .i64 3, .string ⟨#[]⟩, .int .i64 1, .int .i64 2, .int .i64 4, .string kp] 24)) fun e w' => e = .returned (val ⟨1, 2, 4, kp⟩) ∧ Below W.heap.size W w') := fun W hW => by
    have ba : Below W.heap.size W (W.alloc (.cells #[.int .i64 1, .int .i64 2, .int .i64 3, .string ⟨#[]⟩, .int .i64 1, .int .i64 2, .int .i64 4, .string kp] 24)) := (Below.refl _ _).alloc (Nat.le_refl _) _
    have := max_any W.heap.size 0 2 2 [kv, ⟨1, 2, 4, kp⟩] _ rfl (by omega) (by omega) (fun j hj => by
      have : j = 0 ∨ j = 1 := by omega
      rcases this with rfl | rfl
      · exact ⟨by simp [go_sem, kv], by simp [go_sem, kv], by simp [go_sem, kv], by simp [go_sem, kv]⟩
      · exact ⟨by simp [go_sem], by simp [go_sem], by simp [go_sem], by simp [go_sem]⟩) (fun v hv => by
      simp only [List.mem_cons, List.not_mem_nil, or_false] at hv
      rcases hv with rfl | rfl
      · exact k_ok
      · exact k_pok) (hW.later ba)
    rw [k_max] at this
    exact this.mono fun e w' ⟨h1, h2⟩ => ⟨h1, ba.trans (h2.mono (by simp))⟩
  have CR : Hid (∀ W, Env W → Calls Tryz.prog 20 #[val ⟨1, 2, 4, kp⟩] W fun e w' => e = .returned (.bool true) ∧ Below W.heap.size W w') := fun W hW => by
    have := right_any ⟨1, 2, 4, kp⟩ W (by decide) hW
    rw [k_pok] at this; exact this
  have CZ : Hid (∀ W, Calls Tryz.prog 27 #[.slice none 0 0] W fun e w' => e = .returned (ver 0 0 0 ⟨#[]⟩) ∧ Below W.heap.size W w') := fun W => max_none none 0 W
  generalize kp = q at *
  simp only [kv, pret, Option.getD_some, Option.isSome_some] at CP CS CT CC
  go_enter Tryz.func16, Tryz.ntmps16
  go_wp2_with fail
  refine CP.out.mono ?_
  rintro e w1 ⟨rfl, b1⟩
  have E1 := hide (HE.out.later b1)
  have hB1 := b1
  clear CP
  have V1 := hide (VarAt.new w1 ⟨1, 2, 3, ⟨#[]⟩⟩)
  have ba1 : Below w1.heap.size w1 (w1.alloc (.cells #[.int .i64 1, .int .i64 2, .int .i64 3, .string ⟨#[]⟩] 24)) := (Below.refl _ _).alloc (Nat.le_refl _) _
  go_wp2_with fail
  refine (CS.out _ (E1.out.later ba1)).mono ?_
  rintro e w2 ⟨rfl, b2⟩
  have E2 := hide ((E1.out.later ba1).later b2)
  have hB2 := step hB1 (ba1.trans (b2.mono (by simp)))
  have V12 := hide (V1.out.later b2)
  have W2 := hide (VarAt.new w2 ⟨1, 2, 4, q⟩)
  have ba2 : Below w2.heap.size w2 (w2.alloc (.cells #[.int .i64 1, .int .i64 2, .int .i64 4, .string q] 24)) := (Below.refl _ _).alloc (Nat.le_refl _) _
  go_wp2_with fail
  refine (CB.out _ (E2.out.later ba2)).mono ?_
  rintro e w3 ⟨rfl, b3⟩
  have E3 := hide ((E2.out.later ba2).later b3)
  have hB3 := step hB2 (ba2.trans (b3.mono (by simp)))
  obtain ⟨-, c30, c31, c32, c33, -, -, -, -⟩ := (V12.out.later ba2).later b3
  obtain ⟨-, c34, c35, c36, c37, -, -, -, -⟩ := W2.out.later b3
  clear V1 V12 W2 E1 E2 hB1 hB2 b1 b2 b3 ba1 ba2 CS CB
  generalize w1.heap.size = N1 at *
  generalize w2.heap.size = N2 at *
  go_wp2_with fail
  go_region_held3 (fun w' => w'.cell? ⟨N1, 0, none⟩ = some (.int .i64 1) ∧ w'.cell? ⟨N1, 1, none⟩ = some (.int .i64 2) ∧ w'.cell? ⟨N1, 2, none⟩ = some (.int .i64 3) ∧ w'.cell? ⟨N1, 3, none⟩ = some (.string ⟨#[]⟩) ∧ w'.cell? ⟨N2, 0, none⟩ = some (.int .i64 1) ∧ w'.cell? ⟨N2, 1, none⟩ = some (.int .i64 2) ∧ w'.cell? ⟨N2, 2, none⟩ = some (.int .i64 4) ∧ w'.cell? ⟨N2, 3, none⟩ = some (.string q)) (first | go_keep | assumption) (first
    | (go_at_call 18; refine (CT.out _ (E3.out.later (Below.refl _ _).drew)).mono ?_; rintro e w4 ⟨rfl, b4⟩; have E4 := hide ((E3.out.later (Below.refl _ _).drew).later b4); have hB4 : Below w.heap.size w w4 := hB3.drew.trans (b4.mono (by simp [hB3.size])); have c40 := cellLater (a := ⟨N1, 0, none⟩) (v := .int .i64 1) b4 (by first | assumption | (simp [go_sem]; done)); have c41 := cellLater (a := ⟨N1, 1, none⟩) (v := .int .i64 2) b4 (by first | assumption | (simp [go_sem]; done)); have c42 := cellLater (a := ⟨N1, 2, none⟩) (v := .int .i64 3) b4 (by first | assumption | (simp [go_sem]; done)); have c43 := cellLater (a := ⟨N1, 3, none⟩) (v := .string ⟨#[]⟩) b4 (by first | assumption | (simp [go_sem]; done)); have c44 := cellLater (a := ⟨N2, 0, none⟩) (v := .int .i64 1) b4 (by first | assumption | (simp [go_sem]; done)); have c45 := cellLater (a := ⟨N2, 1, none⟩) (v := .int .i64 2) b4 (by first | assumption | (simp [go_sem]; done)); have c46 := cellLater (a := ⟨N2, 2, none⟩) (v := .int .i64 4) b4 (by first | assumption | (simp [go_sem]; done)); have c47 := cellLater (a := ⟨N2, 3, none⟩) (v := .string q) b4 (by first | assumption | (simp [go_sem]; done)); skip)
    | (go_at_call 25; refine (CC.out _ E4.out).mono ?_; rintro e w5 ⟨rfl, b5⟩; have E5 := hide (E4.out.later b5); have hB5 : Below w.heap.size w w5 := step hB4 b5; have c50 := cellLater (a := ⟨N1, 0, none⟩) (v := .int .i64 1) b5 (by first | assumption | (simp [go_sem]; done)); have c51 := cellLater (a := ⟨N1, 1, none⟩) (v := .int .i64 2) b5 (by first | assumption | (simp [go_sem]; done)); have c52 := cellLater (a := ⟨N1, 2, none⟩) (v := .int .i64 3) b5 (by first | assumption | (simp [go_sem]; done)); have c53 := cellLater (a := ⟨N1, 3, none⟩) (v := .string ⟨#[]⟩) b5 (by first | assumption | (simp [go_sem]; done)); have c54 := cellLater (a := ⟨N2, 0, none⟩) (v := .int .i64 1) b5 (by first | assumption | (simp [go_sem]; done)); have c55 := cellLater (a := ⟨N2, 1, none⟩) (v := .int .i64 2) b5 (by first | assumption | (simp [go_sem]; done)); have c56 := cellLater (a := ⟨N2, 2, none⟩) (v := .int .i64 4) b5 (by first | assumption | (simp [go_sem]; done)); have c57 := cellLater (a := ⟨N2, 3, none⟩) (v := .string q) b5 (by first | assumption | (simp [go_sem]; done)); have x50 := World.new_ne w5 ⟨N1, 0, none⟩ c50; have x51 := World.new_ne w5 ⟨N1, 1, none⟩ c51; have x52 := World.new_ne w5 ⟨N1, 2, none⟩ c52; have x53 := World.new_ne w5 ⟨N1, 3, none⟩ c53; have x54 := World.new_ne w5 ⟨N2, 0, none⟩ c54; have x55 := World.new_ne w5 ⟨N2, 1, none⟩ c55; have x56 := World.new_ne w5 ⟨N2, 2, none⟩ c56; have x57 := World.new_ne w5 ⟨N2, 3, none⟩ c57; skip)
    | (go_at_call_of 27 (Value.slice none 0 0); refine (CZ.out _).mono ?_; rintro e w8 ⟨rfl, b8⟩; have hB8 : Below w.heap.size w w8 := step hB7 b8; have c80 := cellLater (a := ⟨N1, 0, none⟩) (v := .int .i64 1) b8 (by first | assumption | (simp [go_sem]; done)); have c81 := cellLater (a := ⟨N1, 1, none⟩) (v := .int .i64 2) b8 (by first | assumption | (simp [go_sem]; done)); have c82 := cellLater (a := ⟨N1, 2, none⟩) (v := .int .i64 3) b8 (by first | assumption | (simp [go_sem]; done)); have c83 := cellLater (a := ⟨N1, 3, none⟩) (v := .string ⟨#[]⟩) b8 (by first | assumption | (simp [go_sem]; done)); have c84 := cellLater (a := ⟨N2, 0, none⟩) (v := .int .i64 1) b8 (by first | assumption | (simp [go_sem]; done)); have c85 := cellLater (a := ⟨N2, 1, none⟩) (v := .int .i64 2) b8 (by first | assumption | (simp [go_sem]; done)); have c86 := cellLater (a := ⟨N2, 2, none⟩) (v := .int .i64 4) b8 (by first | assumption | (simp [go_sem]; done)); have c87 := cellLater (a := ⟨N2, 3, none⟩) (v := .string q) b8 (by first | assumption | (simp [go_sem]; done)); skip)
    | (go_at_call 27; refine (CM.out _ E5.out).mono ?_; rintro e w6 ⟨rfl, b6⟩; have E6 := hide (E5.out.later b6); have hB6 : Below w.heap.size w w6 := step hB5 b6; have c60 := cellLater (a := ⟨N1, 0, none⟩) (v := .int .i64 1) b6 (by first | assumption | (simp [go_sem]; done)); have c61 := cellLater (a := ⟨N1, 1, none⟩) (v := .int .i64 2) b6 (by first | assumption | (simp [go_sem]; done)); have c62 := cellLater (a := ⟨N1, 2, none⟩) (v := .int .i64 3) b6 (by first | assumption | (simp [go_sem]; done)); have c63 := cellLater (a := ⟨N1, 3, none⟩) (v := .string ⟨#[]⟩) b6 (by first | assumption | (simp [go_sem]; done)); have c64 := cellLater (a := ⟨N2, 0, none⟩) (v := .int .i64 1) b6 (by first | assumption | (simp [go_sem]; done)); have c65 := cellLater (a := ⟨N2, 1, none⟩) (v := .int .i64 2) b6 (by first | assumption | (simp [go_sem]; done)); have c66 := cellLater (a := ⟨N2, 2, none⟩) (v := .int .i64 4) b6 (by first | assumption | (simp [go_sem]; done)); have c67 := cellLater (a := ⟨N2, 3, none⟩) (v := .string q) b6 (by first | assumption | (simp [go_sem]; done)); skip)
    | (go_at_call 20; refine (CR.out _ E6.out).mono ?_; rintro e w7 ⟨rfl, b7⟩; have E7 := hide (E6.out.later b7); have hB7 : Below w.heap.size w w7 := step hB6 b7; have c70 := cellLater (a := ⟨N1, 0, none⟩) (v := .int .i64 1) b7 (by first | assumption | (simp [go_sem]; done)); have c71 := cellLater (a := ⟨N1, 1, none⟩) (v := .int .i64 2) b7 (by first | assumption | (simp [go_sem]; done)); have c72 := cellLater (a := ⟨N1, 2, none⟩) (v := .int .i64 3) b7 (by first | assumption | (simp [go_sem]; done)); have c73 := cellLater (a := ⟨N1, 3, none⟩) (v := .string ⟨#[]⟩) b7 (by first | assumption | (simp [go_sem]; done)); have c74 := cellLater (a := ⟨N2, 0, none⟩) (v := .int .i64 1) b7 (by first | assumption | (simp [go_sem]; done)); have c75 := cellLater (a := ⟨N2, 1, none⟩) (v := .int .i64 2) b7 (by first | assumption | (simp [go_sem]; done)); have c76 := cellLater (a := ⟨N2, 2, none⟩) (v := .int .i64 4) b7 (by first | assumption | (simp [go_sem]; done)); have c77 := cellLater (a := ⟨N2, 3, none⟩) (v := .string q) b7 (by first | assumption | (simp [go_sem]; done)); skip))
  rename_i hHeld
  clear hHeld
  go_wp2_with fail
  go_ret
  exact ⟨rfl, hB8⟩

end Go.Proofs.YtiicikieemfcmaaGreatDoor
