/- laws.held.. over lists: fields and instructions. -/
import Derived.Test.YtnoffenkmcmpfaaDoorBtJ
namespace Go.Proofs.YtnoffenkmcmpfaaDoor
set_option linter.unusedVariables false
open Go.ChangeShapes Go.WideShapes Go.ChangeAt Go.RowKit

theorem markL_at {α : Type} (mk : Nat → α → α) (cnt : α → Nat) (k : Nat) (xs : List α) (i : Nat) (h : i < xs.length) (h' : i < (markL mk cnt k xs).length) : (markL mk cnt k xs)[i] = mk (k + totL cnt (xs.take i)) xs[i] := by
  have hl : (markL mk cnt k (xs.take i)).length = i := by rw [markL_length]; simp; omega
  have e : (markL mk cnt k xs)[i]? = some (mk (k + totL cnt (xs.take i)) xs[i]) := by
    conv => lhs; rw [← List.take_append_drop i xs]
    rw [markL_append, List.getElem?_append_right (by omega), hl, Nat.sub_self, List.drop_eq_getElem_cons h]
    rfl
  exact (List.getElem?_eq_some_iff.1 e).2
def HeldQ {α : Type} (cnt : α → Nat) (k : Nat) (xs : List α) (w : World) (e : Ending) (w' : World) : Prop := e = .returned (.int .i64 ((k + totL cnt xs : Nat) : Int)) ∧ Below w.heap.size w w'

theorem heldInts_none (a : Option Addr) (c : Nat) (z : Int) (w : World) : Calls Tryd.prog 46 #[.slice a 0 c, .int .i64 z] w fun e w' => e = .returned (.int .i64 z) ∧ w' = w := by
  go_enter Tryd.func46, Tryd.ntmps46
  go_wp2
  go_loop [1, 5] (fun kv iv => kv = .int .i64 z ∧ iv = .int .i64 0) (fun _ _ => 0)
  case atStart => exact ⟨rfl, rfl⟩
  case round =>
    obtain ⟨rfl, rfl⟩ := hrel
    go_wp2
    go_ret
    exact ⟨rfl, rfl⟩

theorem heldHands_none (a : Option Addr) (c : Nat) (z : Int) (w : World) : Calls Tryd.prog 40 #[.slice a 0 c, .int .i64 z] w fun e w' => e = .returned (.int .i64 z) ∧ w' = w := by
  go_enter Tryd.func40, Tryd.ntmps40
  go_wp2
  go_loop [1, 5] (fun kv iv => kv = .int .i64 z ∧ iv = .int .i64 0) (fun _ _ => 0)
  case atStart => exact ⟨rfl, rfl⟩
  case round =>
    obtain ⟨rfl, rfl⟩ := hrel
    go_wp2
    go_ret
    exact ⟨rfl, rfl⟩

theorem heldFrames_none (a : Option Addr) (c : Nat) (z : Int) (w : World) : Calls Tryd.prog 41 #[.slice a 0 c, .int .i64 z] w fun e w' => e = .returned (.int .i64 z) ∧ w' = w := by
  go_enter Tryd.func41, Tryd.ntmps41
  go_wp2
  go_loop [1, 5] (fun kv iv => kv = .int .i64 z ∧ iv = .int .i64 0) (fun _ _ => 0)
  case atStart => exact ⟨rfl, rfl⟩
  case round =>
    obtain ⟨rfl, rfl⟩ := hrel
    go_wp2
    go_ret
    exact ⟨rfl, rfl⟩

theorem heldLines_none (a : Option Addr) (c : Nat) (z : Int) (w : World) : Calls Tryd.prog 42 #[.slice a 0 c, .int .i64 z] w fun e w' => e = .returned (.int .i64 z) ∧ w' = w := by
  go_enter Tryd.func42, Tryd.ntmps42
  go_wp2
  go_loop [1, 5] (fun kv iv => kv = .int .i64 z ∧ iv = .int .i64 0) (fun _ _ => 0)
  case atStart => exact ⟨rfl, rfl⟩
  case round =>
    obtain ⟨rfl, rfl⟩ := hrel
    go_wp2
    go_ret
    exact ⟨rfl, rfl⟩

theorem heldStrs_none (a : Option Addr) (c : Nat) (z : Int) (w : World) : Calls Tryd.prog 25 #[.slice a 0 c, .int .i64 z] w fun e w' => e = .returned (.int .i64 z) ∧ w' = w := by
  go_enter Tryd.func25, Tryd.ntmps25
  go_wp2
  go_loop [1, 5] (fun kv iv => kv = .int .i64 z ∧ iv = .int .i64 0) (fun _ _ => 0)
  case atStart => exact ⟨rfl, rfl⟩
  case round =>
    obtain ⟨rfl, rfl⟩ := hrel
    go_wp2
    go_ret
    exact ⟨rfl, rfl⟩

set_option maxRecDepth 1000000 in
set_option maxHeartbeats 8000000 in
theorem heldFieldS_calls (v : Value) (xs : List FieldL) (w : World) (F : List Nat) (k : Nat) (hl : ListF FieldF 3 46 w v (markL markFl (fun _ => 3) k xs) F) (hn : xs.length ≤ 1048576) (hk1 : 1 ≤ k) (hk2 : k + totL (fun _ => 3) xs ≤ 4194000) :
    Calls Tryd.prog 26 #[v, .int .i64 k] w (HeldQ (fun _ => 3) k xs w) := by
  obtain ⟨a, c, rfl⟩ := hl.form
  rw [markL_length] at hl ⊢
  have hlH : Hid (∀ wr, Below w.heap.size w wr → ListF FieldF 3 46 wr (.slice a xs.length c) (markL markFl (fun _ => 3) k xs) F) := fun wr hw => hl.below FieldF.good hw
  clear hl
  go_enter Tryd.func26, Tryd.ntmps26
  go_wp2
  go_loopw [1, 5] (fun kv iv wr => ∃ i : Nat, kv = .int .i64 ((k + totL (fun _ => 3) (xs.take i) : Nat) : Int) ∧ iv = .int .i64 i ∧ i ≤ xs.length ∧ Hid (Below w.heap.size w wr)) (fun _ iv _ => xs.length - (intOf iv).toNat)
  case atStart => exact ⟨0, by simp [totL], rfl, Nat.zero_le _, Below.refl _ _⟩
  case round =>
    obtain ⟨i, rfl, rfl, hi, hbw⟩ := hrel
    by_cases hin : i < xs.length
    · have hin1 : (i : Int) < xs.length := by omega
      have hle := totL_le (fun _ => 3) xs (i + 1)
      rw [totL_succ _ _ _ hin] at hle
      obtain ⟨b, row, G, hv, hblt, hrl, hr, -, hrx, -, -⟩ := (hlH.out wr hbw.out).at i (by rw [markL_length]; exact hin)
      subst hv
      rw [markL_at _ _ _ _ _ hin] at hrx
      obtain ⟨q, hq⟩ : ∃ q : Nat, k + totL (fun _ => 3) (xs.take i) = q := ⟨_, rfl⟩
      rw [hq] at hrx ⊢
      have hq1 : 1 ≤ q := by omega
      have hq2 : Hid (q + 3 ≤ 4194000) := by show _ ≤ _; omega
      have hq3 : q ≤ 4194000 := by omega
      have hsucc : Hid (k + totL (fun _ => 3) (xs.take (i + 1)) = q + 3) := by show _ = _; rw [totL_succ _ _ _ hin]; omega
      obtain ⟨rfl, -⟩ := hrx
      have hmk : Hid (∀ W, Below wr.heap.size wr W → (Below wr.heap.size wr W ∧ W.cell? ⟨b, i * 3, none⟩ = some (.string (markS q)) ∧ W.cell? ⟨b, i * 3 + 1, none⟩ = some (.string (markS (q + 1))) ∧ W.cell? ⟨b, i * 3 + 2, none⟩ = some (.int .i64 ((q : Int) + 1 + 1)))) := fun W hW => by
        have kp := rangeAt_kept hW hblt hr
        exact ⟨hW, kp 0 _ rfl, kp 1 _ rfl, kp 2 _ rfl⟩
      have hS0 := hmk.out wr (Below.refl _ _)
      clear hr hrl hblt hle hq
      have bs0 : ((markS q).toList != (markS q).toList) = false := by simp
      have bs1 : ((markS (q + 1)).toList != (markS (q + 1)).toList) = false := by simp
      have bs2 : ((markS (q + 2)).toList != (markS (q + 2)).toList) = false := by simp
      have bs3 : ((markS (q + 3)).toList != (markS (q + 3)).toList) = false := by simp
      have bs4 : ((markS (q + 4)).toList != (markS (q + 4)).toList) = false := by simp
      have bs5 : ((markS (q + 5)).toList != (markS (q + 5)).toList) = false := by simp
      have bs6 : ((markS (q + 6)).toList != (markS (q + 6)).toList) = false := by simp
      have bs7 : ((markS (q + 7)).toList != (markS (q + 7)).toList) = false := by simp
      have bi0 : ((q : Int) != (q : Int)) = false := by simp
      have bi1 : ((q : Int) + 1 != (q : Int) + 1) = false := by simp
      have bi2 : ((q : Int) + 1 + 1 != (q : Int) + 1 + 1) = false := by simp
      have bi3 : ((q : Int) + 1 + 1 + 1 != (q : Int) + 1 + 1 + 1) = false := by simp
      have bi4 : ((q : Int) + 1 + 1 + 1 + 1 != (q : Int) + 1 + 1 + 1 + 1) = false := by simp
      obtain ⟨hB0, e0, e1, e2⟩ := hmk.out wr (Below.refl _ _)
      go_wp2
      clear e0 e1 e2 hB0
      go_region_held3 (fun W => Below wr.heap.size wr W ∧ W.cell? ⟨b, i * 3, none⟩ = some (.string (markS q)) ∧ W.cell? ⟨b, i * 3 + 1, none⟩ = some (.string (markS (q + 1))) ∧ W.cell? ⟨b, i * 3 + 2, none⟩ = some (.int .i64 ((q : Int) + 1 + 1))) (first | assumption | exact hmk.out _ (Below.drew (And.left (by assumption))) | exact hmk.out _ (below_on (And.left (by assumption)) (by assumption))) (first | (go_at_call 21; refine (markZ_calls _ (q + 0) (by omega) _ (by omega) (by omega)).mono ?_; rintro e x0 ⟨rfl, hb0⟩))
      obtain ⟨hB1, g0_0, g0_1, g0_2⟩ := hmk.out x0 (by first | assumption | exact And.left (by assumption))
      go_wp2
      go_region_held3 (fun W => Below wr.heap.size wr W ∧ W.cell? ⟨b, i * 3, none⟩ = some (.string (markS q)) ∧ W.cell? ⟨b, i * 3 + 1, none⟩ = some (.string (markS (q + 1))) ∧ W.cell? ⟨b, i * 3 + 2, none⟩ = some (.int .i64 ((q : Int) + 1 + 1))) (first | assumption | exact hmk.out _ (Below.drew (And.left (by assumption))) | exact hmk.out _ (below_on (And.left (by assumption)) (by assumption))) (first | (go_at_call 21; refine (markZ_calls _ (q + 1) (by omega) _ (by omega) (by omega)).mono ?_; rintro e x1 ⟨rfl, hb1⟩))
      obtain ⟨hB2, g1_0, g1_1, g1_2⟩ := hmk.out x1 (by first | assumption | exact And.left (by assumption))
      go_wp2
      go_roundw
      case rel => exact ⟨i + 1, by simp only [Value.int.injEq, true_and]; have h := hsucc.out; omega, by simp, by omega, below_on hbw.out hB2⟩
      case measure => first | (simp [intOf]; done) | (simp [intOf]; omega)
    · have hin1 : ¬ (i : Int) < xs.length := by omega
      obtain rfl : i = xs.length := by omega
      go_wp2
      go_ret
      exact ⟨by simp, hbw.out⟩

set_option maxRecDepth 1000000 in
set_option maxHeartbeats 8000000 in
theorem heldInsS_calls (v : Value) (xs : List InsL) (w : World) (F : List Nat) (k : Nat) (hl : ListF InsF 9 29 w v (markL markIn (fun _ => 8) k xs) F) (hn : xs.length ≤ 1048576) (hk1 : 1 ≤ k) (hk2 : k + totL (fun _ => 8) xs ≤ 4194000) :
    Calls Tryd.prog 39 #[v, .int .i64 k] w (HeldQ (fun _ => 8) k xs w) := by
  obtain ⟨a, c, rfl⟩ := hl.form
  rw [markL_length] at hl ⊢
  have hlH : Hid (∀ wr, Below w.heap.size w wr → ListF InsF 9 29 wr (.slice a xs.length c) (markL markIn (fun _ => 8) k xs) F) := fun wr hw => hl.below InsF.good hw
  clear hl
  go_enter Tryd.func39, Tryd.ntmps39
  go_wp2
  go_loopw [1, 5] (fun kv iv wr => ∃ i : Nat, kv = .int .i64 ((k + totL (fun _ => 8) (xs.take i) : Nat) : Int) ∧ iv = .int .i64 i ∧ i ≤ xs.length ∧ Hid (Below w.heap.size w wr)) (fun _ iv _ => xs.length - (intOf iv).toNat)
  case atStart => exact ⟨0, by simp [totL], rfl, Nat.zero_le _, Below.refl _ _⟩
  case round =>
    obtain ⟨i, rfl, rfl, hi, hbw⟩ := hrel
    by_cases hin : i < xs.length
    · have hin1 : (i : Int) < xs.length := by omega
      have hle := totL_le (fun _ => 8) xs (i + 1)
      rw [totL_succ _ _ _ hin] at hle
      obtain ⟨b, row, G, hv, hblt, hrl, hr, -, hrx, -, -⟩ := (hlH.out wr hbw.out).at i (by rw [markL_length]; exact hin)
      subst hv
      rw [markL_at _ _ _ _ _ hin] at hrx
      obtain ⟨q, hq⟩ : ∃ q : Nat, k + totL (fun _ => 8) (xs.take i) = q := ⟨_, rfl⟩
      rw [hq] at hrx ⊢
      have hq1 : 1 ≤ q := by omega
      have hq2 : Hid (q + 8 ≤ 4194000) := by show _ ≤ _; omega
      have hq3 : q ≤ 4194000 := by omega
      have hsucc : Hid (k + totL (fun _ => 8) (xs.take (i + 1)) = q + 8) := by show _ = _; rw [totL_succ _ _ _ hin]; omega
      obtain ⟨rfl, -⟩ := hrx
      have hmk : Hid (∀ W, Below wr.heap.size wr W → (Below wr.heap.size wr W ∧ W.cell? ⟨b, i * 9, none⟩ = some (.int .i64 ((q : Int))) ∧ W.cell? ⟨b, i * 9 + 1, none⟩ = some (.int .i64 ((q : Int) + 1)) ∧ W.cell? ⟨b, i * 9 + 2, none⟩ = some (.int .i64 ((q : Int) + 1 + 1)) ∧ W.cell? ⟨b, i * 9 + 3, none⟩ = some (.int .i64 ((q : Int) + 1 + 1 + 1)) ∧ W.cell? ⟨b, i * 9 + 4, none⟩ = some (.string (markS (q + 4))) ∧ W.cell? ⟨b, i * 9 + 5, none⟩ = some (.string (markS (q + 5))) ∧ W.cell? ⟨b, i * 9 + 6, none⟩ = some (.string (markS (q + 6))) ∧ W.cell? ⟨b, i * 9 + 7, none⟩ = some (.string (markS (q + 7))) ∧ W.cell? ⟨b, i * 9 + 8, none⟩ = some (.slice none 0 0))) := fun W hW => by
        have kp := rangeAt_kept hW hblt hr
        exact ⟨hW, kp 0 _ rfl, kp 1 _ rfl, kp 2 _ rfl, kp 3 _ rfl, kp 4 _ rfl, kp 5 _ rfl, kp 6 _ rfl, kp 7 _ rfl, kp 8 _ rfl⟩
      have hS0 := hmk.out wr (Below.refl _ _)
      clear hr hrl hblt hle hq
      have bs0 : ((markS q).toList != (markS q).toList) = false := by simp
      have bs1 : ((markS (q + 1)).toList != (markS (q + 1)).toList) = false := by simp
      have bs2 : ((markS (q + 2)).toList != (markS (q + 2)).toList) = false := by simp
      have bs3 : ((markS (q + 3)).toList != (markS (q + 3)).toList) = false := by simp
      have bs4 : ((markS (q + 4)).toList != (markS (q + 4)).toList) = false := by simp
      have bs5 : ((markS (q + 5)).toList != (markS (q + 5)).toList) = false := by simp
      have bs6 : ((markS (q + 6)).toList != (markS (q + 6)).toList) = false := by simp
      have bs7 : ((markS (q + 7)).toList != (markS (q + 7)).toList) = false := by simp
      have bi0 : ((q : Int) != (q : Int)) = false := by simp
      have bi1 : ((q : Int) + 1 != (q : Int) + 1) = false := by simp
      have bi2 : ((q : Int) + 1 + 1 != (q : Int) + 1 + 1) = false := by simp
      have bi3 : ((q : Int) + 1 + 1 + 1 != (q : Int) + 1 + 1 + 1) = false := by simp
      have bi4 : ((q : Int) + 1 + 1 + 1 + 1 != (q : Int) + 1 + 1 + 1 + 1) = false := by simp
      have hneg : ¬ ((q : Int) + 1 + 1 + 1 + 1 + 1 + 1 + 1 + 1) < 0 := by omega
      obtain ⟨hB0, e0, e1, e2, e3, e4, e5, e6, e7, e8⟩ := hmk.out wr (Below.refl _ _)
      go_wp2
      clear e0 e1 e2 e3 e4 e5 e6 e7 e8 hB0
      go_region_held3 (fun W => Below wr.heap.size wr W ∧ W.cell? ⟨b, i * 9, none⟩ = some (.int .i64 ((q : Int))) ∧ W.cell? ⟨b, i * 9 + 1, none⟩ = some (.int .i64 ((q : Int) + 1)) ∧ W.cell? ⟨b, i * 9 + 2, none⟩ = some (.int .i64 ((q : Int) + 1 + 1)) ∧ W.cell? ⟨b, i * 9 + 3, none⟩ = some (.int .i64 ((q : Int) + 1 + 1 + 1)) ∧ W.cell? ⟨b, i * 9 + 4, none⟩ = some (.string (markS (q + 4))) ∧ W.cell? ⟨b, i * 9 + 5, none⟩ = some (.string (markS (q + 5))) ∧ W.cell? ⟨b, i * 9 + 6, none⟩ = some (.string (markS (q + 6))) ∧ W.cell? ⟨b, i * 9 + 7, none⟩ = some (.string (markS (q + 7))) ∧ W.cell? ⟨b, i * 9 + 8, none⟩ = some (.slice none 0 0)) (first | assumption | exact hmk.out _ (Below.drew (And.left (by assumption))) | exact hmk.out _ (below_on (And.left (by assumption)) (by assumption))) (first | (go_at_call 21; refine (markZ_calls _ (q + 4) (by omega) _ (by omega) (by omega)).mono ?_; rintro e x0 ⟨rfl, hb0⟩))
      obtain ⟨hB1, g0_0, g0_1, g0_2, g0_3, g0_4, g0_5, g0_6, g0_7, g0_8⟩ := hmk.out x0 (by first | assumption | exact And.left (by assumption))
      go_wp2
      go_region_held3 (fun W => Below wr.heap.size wr W ∧ W.cell? ⟨b, i * 9, none⟩ = some (.int .i64 ((q : Int))) ∧ W.cell? ⟨b, i * 9 + 1, none⟩ = some (.int .i64 ((q : Int) + 1)) ∧ W.cell? ⟨b, i * 9 + 2, none⟩ = some (.int .i64 ((q : Int) + 1 + 1)) ∧ W.cell? ⟨b, i * 9 + 3, none⟩ = some (.int .i64 ((q : Int) + 1 + 1 + 1)) ∧ W.cell? ⟨b, i * 9 + 4, none⟩ = some (.string (markS (q + 4))) ∧ W.cell? ⟨b, i * 9 + 5, none⟩ = some (.string (markS (q + 5))) ∧ W.cell? ⟨b, i * 9 + 6, none⟩ = some (.string (markS (q + 6))) ∧ W.cell? ⟨b, i * 9 + 7, none⟩ = some (.string (markS (q + 7))) ∧ W.cell? ⟨b, i * 9 + 8, none⟩ = some (.slice none 0 0)) (first | assumption | exact hmk.out _ (Below.drew (And.left (by assumption))) | exact hmk.out _ (below_on (And.left (by assumption)) (by assumption))) (first | (go_at_call 21; refine (markZ_calls _ (q + 5) (by omega) _ (by omega) (by omega)).mono ?_; rintro e x1 ⟨rfl, hb1⟩))
      obtain ⟨hB2, g1_0, g1_1, g1_2, g1_3, g1_4, g1_5, g1_6, g1_7, g1_8⟩ := hmk.out x1 (by first | assumption | exact And.left (by assumption))
      go_wp2
      go_region_held3 (fun W => Below wr.heap.size wr W ∧ W.cell? ⟨b, i * 9, none⟩ = some (.int .i64 ((q : Int))) ∧ W.cell? ⟨b, i * 9 + 1, none⟩ = some (.int .i64 ((q : Int) + 1)) ∧ W.cell? ⟨b, i * 9 + 2, none⟩ = some (.int .i64 ((q : Int) + 1 + 1)) ∧ W.cell? ⟨b, i * 9 + 3, none⟩ = some (.int .i64 ((q : Int) + 1 + 1 + 1)) ∧ W.cell? ⟨b, i * 9 + 4, none⟩ = some (.string (markS (q + 4))) ∧ W.cell? ⟨b, i * 9 + 5, none⟩ = some (.string (markS (q + 5))) ∧ W.cell? ⟨b, i * 9 + 6, none⟩ = some (.string (markS (q + 6))) ∧ W.cell? ⟨b, i * 9 + 7, none⟩ = some (.string (markS (q + 7))) ∧ W.cell? ⟨b, i * 9 + 8, none⟩ = some (.slice none 0 0)) (first | assumption | exact hmk.out _ (Below.drew (And.left (by assumption))) | exact hmk.out _ (below_on (And.left (by assumption)) (by assumption))) (first | (go_at_call 21; refine (markZ_calls _ (q + 6) (by omega) _ (by omega) (by omega)).mono ?_; rintro e x2 ⟨rfl, hb2⟩))
      obtain ⟨hB3, g2_0, g2_1, g2_2, g2_3, g2_4, g2_5, g2_6, g2_7, g2_8⟩ := hmk.out x2 (by first | assumption | exact And.left (by assumption))
      go_wp2
      go_region_held3 (fun W => Below wr.heap.size wr W ∧ W.cell? ⟨b, i * 9, none⟩ = some (.int .i64 ((q : Int))) ∧ W.cell? ⟨b, i * 9 + 1, none⟩ = some (.int .i64 ((q : Int) + 1)) ∧ W.cell? ⟨b, i * 9 + 2, none⟩ = some (.int .i64 ((q : Int) + 1 + 1)) ∧ W.cell? ⟨b, i * 9 + 3, none⟩ = some (.int .i64 ((q : Int) + 1 + 1 + 1)) ∧ W.cell? ⟨b, i * 9 + 4, none⟩ = some (.string (markS (q + 4))) ∧ W.cell? ⟨b, i * 9 + 5, none⟩ = some (.string (markS (q + 5))) ∧ W.cell? ⟨b, i * 9 + 6, none⟩ = some (.string (markS (q + 6))) ∧ W.cell? ⟨b, i * 9 + 7, none⟩ = some (.string (markS (q + 7))) ∧ W.cell? ⟨b, i * 9 + 8, none⟩ = some (.slice none 0 0)) (first | assumption | exact hmk.out _ (Below.drew (And.left (by assumption))) | exact hmk.out _ (below_on (And.left (by assumption)) (by assumption))) (first | (go_at_call 21; refine (markZ_calls _ (q + 7) (by omega) _ (by omega) (by omega)).mono ?_; rintro e x3 ⟨rfl, hb3⟩))
      obtain ⟨hB4, g3_0, g3_1, g3_2, g3_3, g3_4, g3_5, g3_6, g3_7, g3_8⟩ := hmk.out x3 (by first | assumption | exact And.left (by assumption))
      go_wp2_with (first
        | (go_at_call 46; refine (heldInts_none _ _ _ _).mono ?_; rintro e wz ⟨rfl, rfl⟩))
      go_roundw
      case rel => exact ⟨i + 1, by simp only [Value.int.injEq, true_and]; have h := hsucc.out; omega, by simp, by omega, below_on hbw.out hB4⟩
      case measure => first | (simp [intOf]; done) | (simp [intOf]; omega)
    · have hin1 : ¬ (i : Int) < xs.length := by omega
      obtain rfl : i = xs.length := by omega
      go_wp2
      go_ret
      exact ⟨by simp, hbw.out⟩

end Go.Proofs.YtnoffenkmcmpfaaDoor
