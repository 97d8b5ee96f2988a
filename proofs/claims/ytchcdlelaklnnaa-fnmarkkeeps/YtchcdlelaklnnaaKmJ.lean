/- The program's marker: which ops may be. -/
import Derived.Test.YtchcdlelaklnnaaKmH
import Derived.BigQuiet
namespace Go.Proofs.Ytchcdlelaklnnaa
set_option linter.unusedVariables false
open Go.ChangeShapes Go.WideShapes Go.ChangeAt Go.RowKit

set_option maxRecDepth 100000 in
set_option maxHeartbeats 1000000 in
theorem operandsOk_calls (w : World) (F : Nat → Prop) (H : Nat) (s : StM) (ps fs : List Nat) (ov tv : Value) (op : OpM) (h : ImW w F H s ps fs ov tv) (hl : s.obs.length ≤ 400) :
    Calls Try.prog 49 #[.pointer (some ⟨H, 0, none⟩), opV op] w fun e w' => e = .returned (.bool (okM s op)) ∧ Below w.heap.size w w' := by
  obtain ⟨kind, a, b, c⟩ := op
  have hm : Hid (Calls Try.prog 70 #[.pointer (some ⟨H, 0, none⟩)] (w.alloc (.cells #[.int .i64 kind, .int .i64 a, .int .i64 b, .int .i64 c] 27)) fun e w' => e = .returned (.int .i64 s.obs.length) ∧ w' = (w.alloc (.cells #[.int .i64 kind, .int .i64 a, .int .i64 b, .int .i64 c] 27))) := made_calls _ F H s ps fs ov tv (h.below (below_1 _ _)) hl
  have hra : Hid (∀ W, Calls Try.prog 69 #[.int .i64 a] W fun e w' => e = .returned (.bool (isR a)) ∧ w' = W) := fun W => isRoot_calls a W
  have hrb : Hid (∀ W, Calls Try.prog 69 #[.int .i64 b] W fun e w' => e = .returned (.bool (isR b)) ∧ w' = W) := fun W => isRoot_calls b W
  have hb6 : Hid (∀ W, Calls Try.prog 26 #[.int .i64 b, .int .i64 0, .int .i64 6] W fun e w' => e = .returned (.bool (btw b 0 6)) ∧ w' = W) := fun W => between_calls b 0 6 W
  have ha100 : Hid (∀ W, Calls Try.prog 26 #[.int .i64 a, .int .i64 0, .int .i64 100] W fun e w' => e = .returned (.bool (btw a 0 100)) ∧ w' = W) := fun W => between_calls a 0 100 W
  have hbw : Hid (Below w.heap.size w (w.alloc (.cells #[.int .i64 kind, .int .i64 a, .int .i64 b, .int .i64 c] 27))) := below_1 _ _
  generalize hq : okM s ⟨kind, a, b, c⟩ = q
  unfold okM at hq
  simp only at hq
  have hqb : Hid (_ = q) := hq
  clear hq h
  unfold opV
  simp only
  by_cases k1 : kind = 1
  · subst k1
    have hq : (isR a && btw b 0 6 && decide ((s.obs.length : Int) < 400)) = q := hqb.out
    cases e1 : isR a with
    | false =>
      rw [e1] at hra hq
      have hqf : q = false := by rw [← hq]; rfl
      subst hqf
      clear hq hqb hm
      go_enter Try.func49, Try.ntmps49
      go_wp2_with (go_at_call 69; refine (show Calls _ _ _ _ _ from hra.out _).mono ?_; rintro e W ⟨rfl, hw⟩; subst hw)
      go_ret
      exact ⟨rfl, hbw.out⟩
    | true =>
      cases e2 : btw b 0 6 with
      | false =>
        rw [e1] at hra hq
        rw [e2] at hb6 hq
        have hqf : q = false := by rw [← hq]; rfl
        subst hqf
        clear hq hqb hm
        go_enter Try.func49, Try.ntmps49
        go_wp2_with (first
          | (go_at_call 69; refine (show Calls _ _ _ _ _ from hra.out _).mono ?_; rintro e W ⟨rfl, hw⟩; subst hw)
          | (go_at_call 26; refine (show Calls _ _ _ _ _ from hb6.out _).mono ?_; rintro e W2 ⟨rfl, hw⟩; subst hw))
        go_ret
        exact ⟨rfl, hbw.out⟩
      | true =>
        rw [e1] at hra hq
        rw [e2] at hb6 hq
        have hqf : q = decide ((s.obs.length : Int) < 400) := by rw [← hq]; simp
        have hqH : Hid (q = decide ((s.obs.length : Int) < 400)) := hqf
        clear hq hqb hqf
        go_enter Try.func49, Try.ntmps49
        go_wp2_with fail
        refine (show Calls _ _ _ _ _ from hra.out _).mono ?_
        rintro e W ⟨rfl, hw⟩
        subst hw
        go_wp2_with fail
        refine (show Calls _ _ _ _ _ from hb6.out _).mono ?_
        rintro e W2 ⟨rfl, hw⟩
        subst hw
        go_wp2_with fail
        refine (show Calls _ _ _ _ _ from hm.out).mono ?_
        rintro e W3 ⟨rfl, hw⟩
        subst hw
        go_wp2
        go_ret
        exact ⟨by rw [hqH.out]; rfl, hbw.out⟩
  · have hqn := hqb.out
    rw [if_neg k1] at hqn
    by_cases k2 : kind = 2 ∨ kind = 3 ∨ kind = 4
    · rw [if_pos k2] at hqn
      clear hqb
      cases e1 : isR a with
      | false =>
        rw [e1] at hra hqn
        have hqf : q = false := by rw [← hqn]; rfl
        subst hqf
        clear hqn hm k1
        rcases k2 with rfl | rfl | rfl
        all_goals
          go_enter Try.func49, Try.ntmps49
          go_wp2_with (go_at_call 69; refine (show Calls _ _ _ _ _ from hra.out _).mono ?_; rintro e W ⟨rfl, hw⟩; subst hw)
          go_ret
          exact ⟨rfl, hbw.out⟩
      | true =>
        rw [e1] at hra hqn
        have hqf : isR b = q := by rw [← hqn]; rfl
        rw [hqf] at hrb
        clear hqn hm k1 hqf
        rcases k2 with rfl | rfl | rfl
        all_goals
          go_enter Try.func49, Try.ntmps49
          go_wp2_with fail
          refine (show Calls _ _ _ _ _ from hra.out _).mono ?_
          rintro e W ⟨rfl, hw⟩
          subst hw
          go_wp2_with fail
          refine (show Calls _ _ _ _ _ from hrb.out _).mono ?_
          rintro e W2 ⟨rfl, hw⟩
          subst hw
          go_wp2
          go_ret
          exact ⟨rfl, hbw.out⟩
    rw [if_neg k2] at hqn
    have k2a : kind ≠ 2 := fun e => k2 (.inl e)
    have k3a : kind ≠ 3 := fun e => k2 (.inr (.inl e))
    have k4a : kind ≠ 4 := fun e => k2 (.inr (.inr e))
    clear k2 hqb hm
    by_cases k5 : kind = 5
    · subst k5
      have hqn : isR a = q := hqn
      rw [hqn] at hra
      clear hqn
      go_enter Try.func49, Try.ntmps49
      go_wp2_with (go_at_call 69; refine (show Calls _ _ _ _ _ from hra.out _).mono ?_; rintro e W ⟨rfl, hw⟩; subst hw)
      go_ret
      exact ⟨rfl, hbw.out⟩
    rw [if_neg k5] at hqn
    by_cases k7 : kind = 7
    · subst k7
      have hqn : btw a 0 100 = q := hqn
      rw [hqn] at ha100
      clear hqn
      go_enter Try.func49, Try.ntmps49
      go_wp2_with (go_at_call 26; refine (show Calls _ _ _ _ _ from ha100.out _).mono ?_; rintro e W ⟨rfl, hw⟩; subst hw)
      go_ret
      exact ⟨rfl, hbw.out⟩
    rw [if_neg k7] at hqn
    by_cases k6 : kind = 6
    · subst k6
      have hqn : q = true := by rw [← hqn]; rfl
      subst hqn
      go_enter Try.func49, Try.ntmps49
      go_wp2
      go_ret
      exact ⟨rfl, hbw.out⟩
    by_cases k8 : kind = 8
    · subst k8
      have hqn : q = true := by rw [← hqn]; rfl
      subst hqn
      go_enter Try.func49, Try.ntmps49
      go_wp2
      go_ret
      exact ⟨rfl, hbw.out⟩
    have hqn : q = false := by rw [← hqn]; simp [k6, k8]
    subst hqn
    go_enter Try.func49, Try.ntmps49
    go_wp2
    go_ret
    exact ⟨by show Ending.returned (Value.bool (kind == 6 || kind == 8)) = _; simp [k6, k8], hbw.out⟩
end Go.Proofs.Ytchcdlelaklnnaa
