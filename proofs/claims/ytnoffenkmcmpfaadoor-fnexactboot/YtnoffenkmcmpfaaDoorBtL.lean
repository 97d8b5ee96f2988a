/- laws.held.. over lists: methods and classes. -/
import Derived.Test.YtnoffenkmcmpfaaDoorBtK
namespace Go.Proofs.YtnoffenkmcmpfaaDoor
set_option linter.unusedVariables false
open Go.ChangeShapes Go.WideShapes Go.ChangeAt Go.RowKit

theorem heldInsZ_calls (z : Int) (v : Value) (xs : List InsL) (w : World) (F : List Nat) (k : Nat) (hz : z = k) (hl : ListF InsF 9 29 w v (markL markIn (fun _ => 8) k xs) F) (hn : xs.length ≤ 1048576) (hk1 : 1 ≤ k) (hk2 : k + totL (fun _ => 8) xs ≤ 4194000) :
    Calls Tryd.prog 39 #[v, .int .i64 z] w (HeldQ (fun _ => 8) k xs w) := by
  subst hz
  exact heldInsS_calls v xs w F k hl hn hk1 hk2
theorem heldFieldZ_calls (z : Int) (v : Value) (xs : List FieldL) (w : World) (F : List Nat) (k : Nat) (hz : z = k) (hl : ListF FieldF 3 46 w v (markL markFl (fun _ => 3) k xs) F) (hn : xs.length ≤ 1048576) (hk1 : 1 ≤ k) (hk2 : k + totL (fun _ => 3) xs ≤ 4194000) :
    Calls Tryd.prog 26 #[v, .int .i64 z] w (HeldQ (fun _ => 3) k xs w) := by
  subst hz
  exact heldFieldS_calls v xs w F k hl hn hk1 hk2

set_option maxRecDepth 1000000 in
set_option maxHeartbeats 8000000 in
theorem heldMethS_calls (v : Value) (xs : List MethL) (w : World) (F : List Nat) (k : Nat) (hl : ListF MethF 9 36 w v (markL markM cntM k xs) F) (hn : xs.length ≤ 1048576) (hs : ∀ y ∈ xs, y.code.length ≤ 1048576) (hk1 : 1 ≤ k) (hk2 : k + totL cntM xs ≤ 4194000) :
    Calls Tryd.prog 27 #[v, .int .i64 k] w (HeldQ cntM k xs w) := by
  obtain ⟨a, c, rfl⟩ := hl.form
  rw [markL_length] at hl ⊢
  have hlH : Hid (∀ wr, Below w.heap.size w wr → ListF MethF 9 36 wr (.slice a xs.length c) (markL markM cntM k xs) F) := fun wr hw => hl.below MethF.good hw
  have hsH : Hid (∀ y ∈ xs, y.code.length ≤ 1048576) := hs
  clear hs
  clear hl
  go_enter Tryd.func27, Tryd.ntmps27
  go_wp2
  go_loopw [1, 5] (fun kv iv wr => ∃ i : Nat, kv = .int .i64 ((k + totL cntM (xs.take i) : Nat) : Int) ∧ iv = .int .i64 i ∧ i ≤ xs.length ∧ Hid (Below w.heap.size w wr)) (fun _ iv _ => xs.length - (intOf iv).toNat)
  case atStart => exact ⟨0, by simp [totL], rfl, Nat.zero_le _, Below.refl _ _⟩
  case round =>
    obtain ⟨i, rfl, rfl, hi, hbw⟩ := hrel
    by_cases hin : i < xs.length
    · have hin1 : (i : Int) < xs.length := by omega
      have hle := totL_le cntM xs (i + 1)
      rw [totL_succ _ _ _ hin] at hle
      obtain ⟨b, row, G, hv, hblt, hrl, hr, -, hrx, -, -⟩ := (hlH.out wr hbw.out).at i (by rw [markL_length]; exact hin)
      subst hv
      rw [markL_at _ _ _ _ _ hin] at hrx
      obtain ⟨q, hq⟩ : ∃ q : Nat, k + totL cntM (xs.take i) = q := ⟨_, rfl⟩
      rw [hq] at hrx ⊢
      have hq1 : 1 ≤ q := by omega
      have hq2 : Hid (q + cntM xs[i] ≤ 4194000) := by show _ ≤ _; omega
      have hq3 : q ≤ 4194000 := by omega
      have hsucc : Hid (k + totL cntM (xs.take (i + 1)) = q + cntM xs[i]) := by show _ = _; rw [totL_succ _ _ _ hin]; omega
      obtain ⟨cv, rfl, hcode⟩ := hrx
      obtain ⟨a1, k1, rfl⟩ := hcode.form
      have hcH : Hid (∀ W, Below wr.heap.size wr W → ListF InsF 9 29 W (.slice a1 (markM q xs[i]).code.length k1) (markL markIn (fun _ => 8) (q + 5) xs[i].code) G) := fun W hW => hcode.below InsF.good hW
      have hxs : Hid (xs[i].code.length ≤ 1048576) := hsH.out xs[i] (List.getElem_mem hin)
      clear hcode
      have hmk : Hid (∀ W, Below wr.heap.size wr W → (Below wr.heap.size wr W ∧ W.cell? ⟨b, i * 9, none⟩ = some (.string (markS q)) ∧ W.cell? ⟨b, i * 9 + 1, none⟩ = some (.string (markS (q + 1))) ∧ W.cell? ⟨b, i * 9 + 2, none⟩ = some (.int .i64 ((q : Int) + 1 + 1)) ∧ W.cell? ⟨b, i * 9 + 3, none⟩ = some (.int .i64 ((q : Int) + 1 + 1 + 1)) ∧ W.cell? ⟨b, i * 9 + 4, none⟩ = some (.int .i64 ((q : Int) + 1 + 1 + 1 + 1)) ∧ W.cell? ⟨b, i * 9 + 5, none⟩ = some (.slice a1 (markM q xs[i]).code.length k1) ∧ W.cell? ⟨b, i * 9 + 6, none⟩ = some (.slice none 0 0) ∧ W.cell? ⟨b, i * 9 + 7, none⟩ = some (.slice none 0 0) ∧ W.cell? ⟨b, i * 9 + 8, none⟩ = some (.slice none 0 0))) := fun W hW => by
        have kp := rangeAt_kept hW hblt hr
        exact ⟨hW, kp 0 _ rfl, kp 1 _ rfl, kp 2 _ rfl, kp 3 _ rfl, kp 4 _ rfl, kp 5 _ rfl, kp 6 _ rfl, kp 7 _ rfl, kp 8 _ rfl⟩
      have hS0 := hmk.out wr (Below.refl _ _)
      clear hr hrl hblt hle hq
      have bs0 : ((markS q).toList != (markS q).toList) = false := by simp
      have bs1 : ((markS (q + 1)).toList != (markS (q + 1)).toList) = false := by simp
      have bs2 : ((markS (q + 2)).toList != (markS (q + 2)).toList) = false := by simp
      have bs3 : ((markS (q + 3)).toList != (markS (q + 3)).toList) = false := by simp
      have bs4 : ((markS (q + 4)).toList != (markS (q + 4)).toList) = false := by simp
      have bs5 : ((markS (q + 5)).toList != (markS (q + 5)).toList) = false := by simp
      have bs6 : ((markS (q + 6)).toList != (markS (q + 6)).toList) = false := by simp
      have bs7 : ((markS (q + 7)).toList != (markS (q + 7)).toList) = false := by simp
      have bi0 : ((q : Int) != (q : Int)) = false := by simp
      have bi1 : ((q : Int) + 1 != (q : Int) + 1) = false := by simp
      have bi2 : ((q : Int) + 1 + 1 != (q : Int) + 1 + 1) = false := by simp
      have bi3 : ((q : Int) + 1 + 1 + 1 != (q : Int) + 1 + 1 + 1) = false := by simp
      have bi4 : ((q : Int) + 1 + 1 + 1 + 1 != (q : Int) + 1 + 1 + 1 + 1) = false := by simp
      have hneg : ¬ (((q + 5 + totL (fun _ => 8) xs[i].code : Nat) : Int) < 0) := by omega
      obtain ⟨hB0, e0, e1, e2, e3, e4, e5, e6, e7, e8⟩ := hmk.out wr (Below.refl _ _)
      go_wp2
      clear e0 e1 e2 e3 e4 e5 e6 e7 e8 hB0
      go_region_held3 (fun W => Below wr.heap.size wr W ∧ W.cell? ⟨b, i * 9, none⟩ = some (.string (markS q)) ∧ W.cell? ⟨b, i * 9 + 1, none⟩ = some (.string (markS (q + 1))) ∧ W.cell? ⟨b, i * 9 + 2, none⟩ = some (.int .i64 ((q : Int) + 1 + 1)) ∧ W.cell? ⟨b, i * 9 + 3, none⟩ = some (.int .i64 ((q : Int) + 1 + 1 + 1)) ∧ W.cell? ⟨b, i * 9 + 4, none⟩ = some (.int .i64 ((q : Int) + 1 + 1 + 1 + 1)) ∧ W.cell? ⟨b, i * 9 + 5, none⟩ = some (.slice a1 (markM q xs[i]).code.length k1) ∧ W.cell? ⟨b, i * 9 + 6, none⟩ = some (.slice none 0 0) ∧ W.cell? ⟨b, i * 9 + 7, none⟩ = some (.slice none 0 0) ∧ W.cell? ⟨b, i * 9 + 8, none⟩ = some (.slice none 0 0)) (first | assumption | exact hmk.out _ (Below.drew (And.left (by assumption))) | exact hmk.out _ (below_on (And.left (by assumption)) (by assumption))) (first | (go_at_call 21; refine (markZ_calls _ (q + 0) (by omega) _ (by omega) (by omega)).mono ?_; rintro e x0 ⟨rfl, hb0⟩))
      obtain ⟨hB1, g0_0, g0_1, g0_2, g0_3, g0_4, g0_5, g0_6, g0_7, g0_8⟩ := hmk.out x0 (by first | assumption | exact And.left (by assumption))
      go_wp2
      go_region_held3 (fun W => Below wr.heap.size wr W ∧ W.cell? ⟨b, i * 9, none⟩ = some (.string (markS q)) ∧ W.cell? ⟨b, i * 9 + 1, none⟩ = some (.string (markS (q + 1))) ∧ W.cell? ⟨b, i * 9 + 2, none⟩ = some (.int .i64 ((q : Int) + 1 + 1)) ∧ W.cell? ⟨b, i * 9 + 3, none⟩ = some (.int .i64 ((q : Int) + 1 + 1 + 1)) ∧ W.cell? ⟨b, i * 9 + 4, none⟩ = some (.int .i64 ((q : Int) + 1 + 1 + 1 + 1)) ∧ W.cell? ⟨b, i * 9 + 5, none⟩ = some (.slice a1 (markM q xs[i]).code.length k1) ∧ W.cell? ⟨b, i * 9 + 6, none⟩ = some (.slice none 0 0) ∧ W.cell? ⟨b, i * 9 + 7, none⟩ = some (.slice none 0 0) ∧ W.cell? ⟨b, i * 9 + 8, none⟩ = some (.slice none 0 0)) (first | assumption | exact hmk.out _ (Below.drew (And.left (by assumption))) | exact hmk.out _ (below_on (And.left (by assumption)) (by assumption))) (first | (go_at_call 21; refine (markZ_calls _ (q + 1) (by omega) _ (by omega) (by omega)).mono ?_; rintro e x1 ⟨rfl, hb1⟩))
      obtain ⟨hB2, g1_0, g1_1, g1_2, g1_3, g1_4, g1_5, g1_6, g1_7, g1_8⟩ := hmk.out x1 (by first | assumption | exact And.left (by assumption))
      go_wp2_with (first
        | (go_at_call 39; refine (heldInsZ_calls _ _ xs[i].code _ G (q + 5) (by omega) (hcH.out x1 hB2) hxs.out (by omega) (by have := hq2.out; unfold cntM at this; omega)).mono ?_; rintro e x9 ⟨rfl, hb9⟩; have hB9 := below_on hB2 hb9; obtain ⟨-, h9_0, h9_1, h9_2, h9_3, h9_4, h9_5, h9_6, h9_7, h9_8⟩ := hmk.out x9 hB9)
        | (go_at_call 40; refine (heldHands_none _ _ _ _).mono ?_; rintro e wz ⟨rfl, rfl⟩)
        | (go_at_call 41; refine (heldFrames_none _ _ _ _).mono ?_; rintro e wz ⟨rfl, rfl⟩)
        | (go_at_call 42; refine (heldLines_none _ _ _ _).mono ?_; rintro e wz ⟨rfl, rfl⟩))
      go_roundw
      case rel => exact ⟨i + 1, by simp only [Value.int.injEq, true_and]; have h := hsucc.out; simp only [cntM] at h ⊢; omega, by simp, by omega, below_on hbw.out hB9⟩
      case measure => first | (simp [intOf]; done) | (simp [intOf]; omega)
    · have hin1 : ¬ (i : Int) < xs.length := by omega
      obtain rfl : i = xs.length := by omega
      go_wp2
      go_ret
      exact ⟨by simp, hbw.out⟩

set_option maxRecDepth 1000000 in
set_option maxHeartbeats 8000000 in
theorem heldClassS_calls (v : Value) (xs : List ClassL) (w : World) (F : List Nat) (k : Nat) (hl : ListF ClassF 7 42 w v (markL markC cntC k xs) F) (hn : xs.length ≤ 1048576) (hs : ∀ y ∈ xs, y.fields.length ≤ 1048576 ∧ y.meths.length ≤ 1048576 ∧ ∀ m ∈ y.meths, m.code.length ≤ 1048576) (hk1 : 1 ≤ k) (hk2 : k + totL cntC xs ≤ 4194000) :
    Calls Tryd.prog 8 #[v, .int .i64 k] w (HeldQ cntC k xs w) := by
  obtain ⟨a, c, rfl⟩ := hl.form
  rw [markL_length] at hl ⊢
  have hlH : Hid (∀ wr, Below w.heap.size w wr → ListF ClassF 7 42 wr (.slice a xs.length c) (markL markC cntC k xs) F) := fun wr hw => hl.below ClassF.good hw
  have hsH : Hid (∀ y ∈ xs, y.fields.length ≤ 1048576 ∧ y.meths.length ≤ 1048576 ∧ ∀ m ∈ y.meths, m.code.length ≤ 1048576) := hs
  clear hs
  clear hl
  go_enter Tryd.func8, Tryd.ntmps8
  go_wp2
  go_loopw [1, 5] (fun kv iv wr => ∃ i : Nat, kv = .int .i64 ((k + totL cntC (xs.take i) : Nat) : Int) ∧ iv = .int .i64 i ∧ i ≤ xs.length ∧ Hid (Below w.heap.size w wr)) (fun _ iv _ => xs.length - (intOf iv).toNat)
  case atStart => exact ⟨0, by simp [totL], rfl, Nat.zero_le _, Below.refl _ _⟩
  case round =>
    obtain ⟨i, rfl, rfl, hi, hbw⟩ := hrel
    by_cases hin : i < xs.length
    · have hin1 : (i : Int) < xs.length := by omega
      have hle := totL_le cntC xs (i + 1)
      rw [totL_succ _ _ _ hin] at hle
      obtain ⟨b, row, G, hv, hblt, hrl, hr, -, hrx, -, -⟩ := (hlH.out wr hbw.out).at i (by rw [markL_length]; exact hin)
      subst hv
      rw [markL_at _ _ _ _ _ hin] at hrx
      obtain ⟨q, hq⟩ : ∃ q : Nat, k + totL cntC (xs.take i) = q := ⟨_, rfl⟩
      rw [hq] at hrx ⊢
      have hq1 : 1 ≤ q := by omega
      have hq2 : Hid (q + cntC xs[i] ≤ 4194000) := by show _ ≤ _; omega
      have hq3 : q ≤ 4194000 := by omega
      have hsucc : Hid (k + totL cntC (xs.take (i + 1)) = q + cntC xs[i]) := by show _ = _; rw [totL_succ _ _ _ hin]; omega
      obtain ⟨sv, tv, G1, G2, rfl, hfl, hml, -⟩ := hrx
      obtain ⟨a1, k1, rfl⟩ := hfl.form
      obtain ⟨a2, k2, rfl⟩ := hml.form
      have hfH : Hid (∀ W, Below wr.heap.size wr W → ListF FieldF 3 46 W (.slice a1 (markC q xs[i]).fields.length k1) (markL markFl (fun _ => 3) (q + 3) xs[i].fields) G1) := fun W hW => hfl.below FieldF.good hW
      have hmH : Hid (∀ W, Below wr.heap.size wr W → ListF MethF 9 36 W (.slice a2 (markC q xs[i]).meths.length k2) (markL markM cntM (q + 3 + totL (fun _ => 3) xs[i].fields) xs[i].meths) G2) := fun W hW => hml.below MethF.good hW
      have hxs : Hid (xs[i].fields.length ≤ 1048576 ∧ xs[i].meths.length ≤ 1048576 ∧ ∀ m ∈ xs[i].meths, m.code.length ≤ 1048576) := hsH.out xs[i] (List.getElem_mem hin)
      clear hfl hml
      have hmk : Hid (∀ W, Below wr.heap.size wr W → (Below wr.heap.size wr W ∧ W.cell? ⟨b, i * 7, none⟩ = some (.string (markS q)) ∧ W.cell? ⟨b, i * 7 + 1, none⟩ = some (.string (markS (q + 1))) ∧ W.cell? ⟨b, i * 7 + 2, none⟩ = some (.slice none 0 0) ∧ W.cell? ⟨b, i * 7 + 3, none⟩ = some (.int .i64 ((q : Int) + 1 + 1)) ∧ W.cell? ⟨b, i * 7 + 4, none⟩ = some (.slice none 0 0) ∧ W.cell? ⟨b, i * 7 + 5, none⟩ = some (.slice a1 (markC q xs[i]).fields.length k1) ∧ W.cell? ⟨b, i * 7 + 6, none⟩ = some (.slice a2 (markC q xs[i]).meths.length k2))) := fun W hW => by
        have kp := rangeAt_kept hW hblt hr
        exact ⟨hW, kp 0 _ rfl, kp 1 _ rfl, kp 2 _ rfl, kp 3 _ rfl, kp 4 _ rfl, kp 5 _ rfl, kp 6 _ rfl⟩
      have hS0 := hmk.out wr (Below.refl _ _)
      clear hr hrl hblt hle hq
      have bs0 : ((markS q).toList != (markS q).toList) = false := by simp
      have bs1 : ((markS (q + 1)).toList != (markS (q + 1)).toList) = false := by simp
      have bs2 : ((markS (q + 2)).toList != (markS (q + 2)).toList) = false := by simp
      have bs3 : ((markS (q + 3)).toList != (markS (q + 3)).toList) = false := by simp
      have bs4 : ((markS (q + 4)).toList != (markS (q + 4)).toList) = false := by simp
      have bs5 : ((markS (q + 5)).toList != (markS (q + 5)).toList) = false := by simp
      have bs6 : ((markS (q + 6)).toList != (markS (q + 6)).toList) = false := by simp
      have bs7 : ((markS (q + 7)).toList != (markS (q + 7)).toList) = false := by simp
      have bi0 : ((q : Int) != (q : Int)) = false := by simp
      have bi1 : ((q : Int) + 1 != (q : Int) + 1) = false := by simp
      have bi2 : ((q : Int) + 1 + 1 != (q : Int) + 1 + 1) = false := by simp
      have bi3 : ((q : Int) + 1 + 1 + 1 != (q : Int) + 1 + 1 + 1) = false := by simp
      have bi4 : ((q : Int) + 1 + 1 + 1 + 1 != (q : Int) + 1 + 1 + 1 + 1) = false := by simp
      have hneg : ¬ (((q + 3 + totL (fun _ => 3) xs[i].fields : Nat) : Int) < 0) := by omega
      have hneg2 : ¬ (((q + 3 + totL (fun _ => 3) xs[i].fields + totL cntM xs[i].meths : Nat) : Int) < 0) := by omega
      have hneg3 : ¬ ((q : Int) + 1 + 1 < 0) := by omega
      have hneg4 : ¬ ((q : Int) + 1 + 1 + 1 < 0) := by omega
      obtain ⟨hB0, e0, e1, e2, e3, e4, e5, e6⟩ := hmk.out wr (Below.refl _ _)
      go_wp2
      clear e0 e1 e2 e3 e4 e5 e6 hB0
      go_region_held3 (fun W => Below wr.heap.size wr W ∧ W.cell? ⟨b, i * 7, none⟩ = some (.string (markS q)) ∧ W.cell? ⟨b, i * 7 + 1, none⟩ = some (.string (markS (q + 1))) ∧ W.cell? ⟨b, i * 7 + 2, none⟩ = some (.slice none 0 0) ∧ W.cell? ⟨b, i * 7 + 3, none⟩ = some (.int .i64 ((q : Int) + 1 + 1)) ∧ W.cell? ⟨b, i * 7 + 4, none⟩ = some (.slice none 0 0) ∧ W.cell? ⟨b, i * 7 + 5, none⟩ = some (.slice a1 (markC q xs[i]).fields.length k1) ∧ W.cell? ⟨b, i * 7 + 6, none⟩ = some (.slice a2 (markC q xs[i]).meths.length k2)) (first | assumption | exact hmk.out _ (Below.drew (And.left (by assumption))) | exact hmk.out _ (below_on (And.left (by assumption)) (by assumption))) (first | (go_at_call 21; refine (markZ_calls _ (q + 0) (by omega) _ (by omega) (by omega)).mono ?_; rintro e x0 ⟨rfl, hb0⟩))
      obtain ⟨hB1, g0_0, g0_1, g0_2, g0_3, g0_4, g0_5, g0_6⟩ := hmk.out x0 (by first | assumption | exact And.left (by assumption))
      go_wp2
      go_region_held3 (fun W => Below wr.heap.size wr W ∧ W.cell? ⟨b, i * 7, none⟩ = some (.string (markS q)) ∧ W.cell? ⟨b, i * 7 + 1, none⟩ = some (.string (markS (q + 1))) ∧ W.cell? ⟨b, i * 7 + 2, none⟩ = some (.slice none 0 0) ∧ W.cell? ⟨b, i * 7 + 3, none⟩ = some (.int .i64 ((q : Int) + 1 + 1)) ∧ W.cell? ⟨b, i * 7 + 4, none⟩ = some (.slice none 0 0) ∧ W.cell? ⟨b, i * 7 + 5, none⟩ = some (.slice a1 (markC q xs[i]).fields.length k1) ∧ W.cell? ⟨b, i * 7 + 6, none⟩ = some (.slice a2 (markC q xs[i]).meths.length k2)) (first | assumption | exact hmk.out _ (Below.drew (And.left (by assumption))) | exact hmk.out _ (below_on (And.left (by assumption)) (by assumption))) (first | (go_at_call 21; refine (markZ_calls _ (q + 1) (by omega) _ (by omega) (by omega)).mono ?_; rintro e x1 ⟨rfl, hb1⟩))
      obtain ⟨hB2, g1_0, g1_1, g1_2, g1_3, g1_4, g1_5, g1_6⟩ := hmk.out x1 (by first | assumption | exact And.left (by assumption))
      go_wp2_with (first
        | (go_at_call 25; refine (heldStrs_none _ _ _ _).mono ?_; rintro e wz ⟨rfl, rfl⟩)
        | (go_at_call 26; refine (heldFieldZ_calls _ _ xs[i].fields _ G1 (q + 3) (by omega) (hfH.out _ hB2) hxs.out.1 (by omega) (by have := hq2.out; unfold cntC at this; omega)).mono ?_; rintro e x9 ⟨rfl, hb9⟩; have hB9 := below_on hB2 hb9; obtain ⟨-, h9_0, h9_1, h9_2, h9_3, h9_4, h9_5, h9_6⟩ := hmk.out x9 hB9)
        | (go_at_call 27; refine (heldMethS_calls _ xs[i].meths _ G2 (q + 3 + totL (fun _ => 3) xs[i].fields) (hmH.out _ hB9) hxs.out.2.1 hxs.out.2.2 (by omega) (by have := hq2.out; unfold cntC at this; omega)).mono ?_; rintro e x10 ⟨rfl, hb10⟩; have hB10 := below_on hB9 hb10))
      go_roundw
      case rel => exact ⟨i + 1, by simp only [Value.int.injEq, true_and]; have h := hsucc.out; simp only [cntC] at h ⊢; omega, by simp, by omega, below_on hbw.out hB10⟩
      case measure => first | (simp [intOf]; done) | (simp [intOf]; omega)
    · have hin1 : ¬ (i : Int) < xs.length := by omega
      obtain rfl : i = xs.length := by omega
      go_wp2
      go_ret
      exact ⟨by simp, hbw.out⟩

end Go.Proofs.YtnoffenkmcmpfaaDoor
