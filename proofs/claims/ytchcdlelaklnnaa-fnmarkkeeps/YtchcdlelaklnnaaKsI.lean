/- The specification's heap: which ops may be. -/
import Derived.Test.YtchcdlelaklnnaaKsH
namespace Go.Proofs.Ytchcdlelaklnnaa
set_option linter.unusedVariables false
open Go.ChangeShapes Go.WideShapes Go.ChangeAt Go.RowKit

def opV (op : OpM) : Value := .agg #[.int .i64 op.kind, .int .i64 op.a, .int .i64 op.b, .int .i64 op.c]
set_option maxRecDepth 100000 in
theorem root_calls (n : Int) (w : World) : Calls Try.prog 48 #[.int .i64 n] w fun e w' => e = .returned (.bool (isR n)) ∧ w' = w := by
  by_cases h0 : 0 ≤ n
  · by_cases h8 : n < 8
    · have e : isR n = true := by simp [isR, h0, h8]
      rw [e]
      clear e
      go_enter Try.func48, Try.ntmps48
      go_wp2
      go_ret
      exact ⟨rfl, rfl⟩
    · have e : isR n = false := by simp [isR, h0, h8]
      rw [e]
      clear e
      go_enter Try.func48, Try.ntmps48
      go_wp2
      go_ret
      exact ⟨rfl, rfl⟩
  · have e : isR n = false := by simp [isR, h0]
    rw [e]
    clear e
    go_enter Try.func48, Try.ntmps48
    go_wp2
    go_ret
    exact ⟨rfl, rfl⟩
def btw (n l h : Int) : Bool := decide (l ≤ n) && decide (n ≤ h)
set_option maxRecDepth 100000 in
theorem btw_calls (n l h : Int) (w : World) : Calls Try.prog 65 #[.int .i64 n, .int .i64 l, .int .i64 h] w fun e w' => e = .returned (.bool (btw n l h)) ∧ w' = w := by
  by_cases h0 : l ≤ n
  · by_cases h8 : n ≤ h
    · have e : btw n l h = true := by simp [btw, h0, h8]
      rw [e]
      clear e
      go_enter Try.func65, Try.ntmps65
      go_wp2
      go_ret
      exact ⟨rfl, rfl⟩
    · have e : btw n l h = false := by simp [btw, h0, h8]
      rw [e]
      clear e
      go_enter Try.func65, Try.ntmps65
      go_wp2
      go_ret
      exact ⟨rfl, rfl⟩
  · have e : btw n l h = false := by simp [btw, h0]
    rw [e]
    clear e
    go_enter Try.func65, Try.ntmps65
    go_wp2
    go_ret
    exact ⟨rfl, rfl⟩
theorem cellB {w W : World} {B H j : Nat} {v : Value} (h : Below B w W) (hH : H < B) (hc : w.cell? ⟨H, j, none⟩ = some v) : W.cell? ⟨H, j, none⟩ = some v := (h.cell (p := ⟨H, j, none⟩) hH).trans hc
theorem freeB {w W : World} {B H j : Nat} {b : Bool} (h : Below B w W) (hH : H < B) (hc : w.frozen? ⟨H, j, none⟩ = b) : W.frozen? ⟨H, j, none⟩ = b := (h.frozen (p := ⟨H, j, none⟩) hH).trans hc
set_option maxRecDepth 100000 in
set_option maxHeartbeats 1000000 in
theorem opOk_calls (w : World) (F : Nat → Prop) (H : Nat) (s : StM) (ps fs : List Nat) (ov : Value) (R : Nat) (qv : Value) (op : OpM) (h : SpW w F H s ps fs ov R qv) :
    Calls Try.prog 42 #[.pointer (some ⟨H, 0, none⟩), opV op] w fun e w' => e = .returned (.bool (okM s op)) ∧ Below w.heap.size w w' := by
  obtain ⟨kind, a, b, c⟩ := op
  have hm : (w.alloc (.cells #[.int .i64 kind, .int .i64 a, .int .i64 b, .int .i64 c] 27)).cell? ⟨H, 5, none⟩ = some (.int .i64 s.obs.length) := cellB (below_1 _ _) (lt_of h.blk) (cell_of h.blk rfl)
  have hra : Hid (∀ W, Calls Try.prog 48 #[.int .i64 a] W fun e w' => e = .returned (.bool (isR a)) ∧ w' = W) := fun W => root_calls a W
  have hrb : Hid (∀ W, Calls Try.prog 48 #[.int .i64 b] W fun e w' => e = .returned (.bool (isR b)) ∧ w' = W) := fun W => root_calls b W
  have hb6 : Hid (∀ W, Calls Try.prog 65 #[.int .i64 b, .int .i64 0, .int .i64 6] W fun e w' => e = .returned (.bool (btw b 0 6)) ∧ w' = W) := fun W => btw_calls b 0 6 W
  have ha100 : Hid (∀ W, Calls Try.prog 65 #[.int .i64 a, .int .i64 0, .int .i64 100] W fun e w' => e = .returned (.bool (btw a 0 100)) ∧ w' = W) := fun W => btw_calls a 0 100 W
  have hbw : Hid (Below w.heap.size w (w.alloc (.cells #[.int .i64 kind, .int .i64 a, .int .i64 b, .int .i64 c] 27))) := below_1 _ _
  generalize hq : okM s ⟨kind, a, b, c⟩ = q
  unfold okM at hq
  simp only at hq
  have hqb : Hid (_ = q) := hq
  clear hq h
  unfold opV
  simp only
  by_cases k1 : kind = 1
  · subst k1
    have hq : (isR a && btw b 0 6 && decide ((s.obs.length : Int) < 400)) = q := hqb.out
    cases e1 : isR a with
    | false =>
      rw [e1] at hra hq
      have hqf : q = false := by rw [← hq]; rfl
      subst hqf
      clear hq hqb hm
      go_enter Try.func42, Try.ntmps42
      go_wp2_with (go_at_call 48; refine (show Calls _ _ _ _ _ from hra.out _).mono ?_; rintro e W ⟨rfl, hw⟩; subst hw)
      go_ret
      exact ⟨rfl, hbw.out⟩
    | true =>
      cases e2 : btw b 0 6 with
      | false =>
        rw [e1] at hra hq
        rw [e2] at hb6 hq
        have hqf : q = false := by rw [← hq]; rfl
        subst hqf
        clear hq hqb hm
        go_enter Try.func42, Try.ntmps42
        go_wp2_with (first
          | (go_at_call 48; refine (show Calls _ _ _ _ _ from hra.out _).mono ?_; rintro e W ⟨rfl, hw⟩; subst hw)
          | (go_at_call 65; refine (show Calls _ _ _ _ _ from hb6.out _).mono ?_; rintro e W2 ⟨rfl, hw⟩; subst hw))
        go_ret
        exact ⟨rfl, hbw.out⟩
      | true =>
        rw [e1] at hra hq
        rw [e2] at hb6 hq
        have hqf : q = decide ((s.obs.length : Int) < 400) := by rw [← hq]; simp
        have hqH : Hid (q = decide ((s.obs.length : Int) < 400)) := hqf
        clear hq hqb hqf
        go_enter Try.func42, Try.ntmps42
        go_wp2_with (first
          | (go_at_call 48; refine (show Calls _ _ _ _ _ from hra.out _).mono ?_; rintro e W ⟨rfl, hw⟩; subst hw)
          | (go_at_call 65; refine (show Calls _ _ _ _ _ from hb6.out _).mono ?_; rintro e W2 ⟨rfl, hw⟩; subst hw))
        go_ret
        exact ⟨by rw [hqH.out]; rfl, hbw.out⟩
  · have hqn := hqb.out
    rw [if_neg k1] at hqn
    by_cases k2 : kind = 2 ∨ kind = 3 ∨ kind = 4
    · rw [if_pos k2] at hqn
      clear hqb
      cases e1 : isR a with
      | false =>
        rw [e1] at hra hqn
        have hqf : q = false := by rw [← hqn]; rfl
        subst hqf
        clear hqn hm k1
        rcases k2 with rfl | rfl | rfl
        all_goals
          go_enter Try.func42, Try.ntmps42
          go_wp2_with (go_at_call 48; refine (show Calls _ _ _ _ _ from hra.out _).mono ?_; rintro e W ⟨rfl, hw⟩; subst hw)
          go_ret
          exact ⟨rfl, hbw.out⟩
      | true =>
        rw [e1] at hra hqn
        have hqf : isR b = q := by rw [← hqn]; rfl
        rw [hqf] at hrb
        clear hqn hm k1 hqf
        rcases k2 with rfl | rfl | rfl
        all_goals
          go_enter Try.func42, Try.ntmps42
          go_wp2_with fail
          refine (show Calls _ _ _ _ _ from hra.out _).mono ?_
          rintro e W ⟨rfl, hw⟩
          subst hw
          go_wp2_with fail
          refine (show Calls _ _ _ _ _ from hrb.out _).mono ?_
          rintro e W2 ⟨rfl, hw⟩
          subst hw
          go_wp2
          go_ret
          exact ⟨rfl, hbw.out⟩
    rw [if_neg k2] at hqn
    have k2a : kind ≠ 2 := fun e => k2 (.inl e)
    have k3a : kind ≠ 3 := fun e => k2 (.inr (.inl e))
    have k4a : kind ≠ 4 := fun e => k2 (.inr (.inr e))
    clear k2 hqb hm
    by_cases k5 : kind = 5
    · subst k5
      have hqn : isR a = q := hqn
      rw [hqn] at hra
      clear hqn
      go_enter Try.func42, Try.ntmps42
      go_wp2_with (go_at_call 48; refine (show Calls _ _ _ _ _ from hra.out _).mono ?_; rintro e W ⟨rfl, hw⟩; subst hw)
      go_ret
      exact ⟨rfl, hbw.out⟩
    rw [if_neg k5] at hqn
    by_cases k7 : kind = 7
    · subst k7
      have hqn : btw a 0 100 = q := hqn
      rw [hqn] at ha100
      clear hqn
      go_enter Try.func42, Try.ntmps42
      go_wp2_with (go_at_call 65; refine (show Calls _ _ _ _ _ from ha100.out _).mono ?_; rintro e W ⟨rfl, hw⟩; subst hw)
      go_ret
      exact ⟨rfl, hbw.out⟩
    rw [if_neg k7] at hqn
    by_cases k6 : kind = 6
    · subst k6
      have hqn : q = true := by rw [← hqn]; rfl
      subst hqn
      go_enter Try.func42, Try.ntmps42
      go_wp2
      go_ret
      exact ⟨rfl, hbw.out⟩
    by_cases k8 : kind = 8
    · subst k8
      have hqn : q = true := by rw [← hqn]; rfl
      subst hqn
      go_enter Try.func42, Try.ntmps42
      go_wp2
      go_ret
      exact ⟨rfl, hbw.out⟩
    have hqn : q = false := by rw [← hqn]; simp [k6, k8]
    subst hqn
    go_enter Try.func42, Try.ntmps42
    go_wp2
    go_ret
    exact ⟨by show Ending.returned (Value.bool (kind == 6 || kind == 8)) = _; simp [k6, k8], hbw.out⟩
end Go.Proofs.Ytchcdlelaklnnaa
