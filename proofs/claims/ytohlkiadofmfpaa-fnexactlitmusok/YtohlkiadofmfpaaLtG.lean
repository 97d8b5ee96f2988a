/- impl.LitmusOk, walked: acts, locks, threads, the test. -/
import Derived.Test.YtohlkiadofmfpaaLtM
import Derived.Test.YtohlkiadofmfpaaLtE
import Derived.Lib.QuietBelow
namespace Go.Proofs.Ytohlkiadofmfpaa
set_option linter.unusedVariables false
open Go.ChangeShapes Go.WideShapes Go.ChangeAt Go.RowKit

set_option maxRecDepth 1000000 in
theorem betweenI_calls (a lo hi : Int) (w : World) : Calls Try.prog 13 #[.int .i64 a, .int .i64 lo, .int .i64 hi] w fun e w' => e = .returned (.bool (btw a lo hi)) ∧ w' = w := by
  by_cases h1 : lo ≤ a
  · by_cases h2 : a ≤ hi
    · have hb : btw a lo hi = true := by simp [btw, h1, h2]
      go_enter Try.func13, Try.ntmps13
      go_wp2
      go_ret
      exact ⟨by first | rfl | (rw [hb]; rfl), rfl⟩
    · have hb : btw a lo hi = false := by simp [btw, h2]
      go_enter Try.func13, Try.ntmps13
      go_wp2
      go_ret
      exact ⟨by first | rfl | (rw [hb]; rfl), rfl⟩
  · have hb : btw a lo hi = false := by simp [btw, h1]
    go_enter Try.func13, Try.ntmps13
    go_wp2
    go_ret
    exact ⟨by first | rfl | (rw [hb]; rfl), rfl⟩

set_option maxRecDepth 1000000 in
theorem isL_calls (a : ActL) (w : World) : Calls Try.prog 21 #[.agg #[.int .i64 a.kind, .int .i64 a.var, .int .i64 a.n]] w fun e w' => e = .returned (.bool (isL a)) ∧ Below w.heap.size w w' := by
  obtain ⟨k, v, n⟩ := a
  have h : Hid (isL ⟨k, v, n⟩ = (k == 4 || k == 5)) := rfl
  generalize isL ⟨k, v, n⟩ = r at h ⊢
  by_cases k4 : k = 4
  · subst k4
    go_enter Try.func21, Try.ntmps21
    go_wp2
    go_ret
    exact ⟨by rw [h.out]; rfl, below_1 _ _⟩
  · have kb : (k == 4) = false := by simpa using k4
    by_cases k5 : k = 5
    · subst k5
      go_enter Try.func21, Try.ntmps21
      go_wp2
      go_ret
      exact ⟨by rw [h.out]; rfl, below_1 _ _⟩
    · have kb5 : (k == 5) = false := by simpa using k5
      go_enter Try.func21, Try.ntmps21
      go_wp2
      go_ret
      exact ⟨by rw [h.out, kb, kb5]; rfl, below_1 _ _⟩

set_option maxRecDepth 1000000 in
set_option maxHeartbeats 2000000 in
theorem actC_calls (vars vol locks : Int) (ta : Option Addr) (tn tc : Nat) (a : ActL) (w : World) (hv0 : 0 ≤ vars) (hv1 : vars ≤ 4) (hl0 : 0 ≤ locks) (hl1 : locks ≤ 2) :
    Calls Try.prog 20 #[.agg #[.int .i64 vars, .int .i64 vol, .int .i64 locks, .slice ta tn tc], .agg #[.int .i64 a.kind, .int .i64 a.var, .int .i64 a.n]] w fun e w' => e = .returned (.bool (actC vars locks a)) ∧ Below w.heap.size w w' := by
  obtain ⟨k, v, n⟩ := a
  have hfin : Hid (∀ b1 b2 : Obj, Below w.heap.size w ((w.alloc b1).alloc b2)) := fun b1 b2 => below_on (below_1 w b1) (below_1 _ b2)
  by_cases k1 : k = 1
  · subst k1
    have h : Hid (actC vars locks ⟨1, v, n⟩ = (btw v 0 (vars - 1) && n == 0)) := by show _ = _; simp [actC]
    generalize actC vars locks ⟨1, v, n⟩ = r at h ⊢
    cases hb : btw v 0 (vars - 1)
    · have hr : Hid (r = false) := by show _ = _; rw [h.out, hb]; rfl
      clear h
      go_enter Try.func20, Try.ntmps20
      go_wp2_with (go_at_call 13; refine (betweenI_calls _ _ _ _).mono ?_; rintro e w' ⟨rfl, rfl⟩)
      go_ret
      exact ⟨by rw [hr.out]; rfl, hfin.out _ _⟩
    · by_cases hn : n = 0
      · subst hn
        have hr : Hid (r = true) := by show _ = _; rw [h.out, hb]; rfl
        clear h
        go_enter Try.func20, Try.ntmps20
        go_wp2_with (go_at_call 13; refine (betweenI_calls _ _ _ _).mono ?_; rintro e w' ⟨rfl, rfl⟩)
        go_ret
        exact ⟨by rw [hr.out]; rfl, hfin.out _ _⟩
      · have hnb : (n == 0) = false := by simpa using hn
        have hr : Hid (r = false) := by show _ = _; rw [h.out, hb, hnb]; rfl
        clear h
        go_enter Try.func20, Try.ntmps20
        go_wp2_with (go_at_call 13; refine (betweenI_calls _ _ _ _).mono ?_; rintro e w' ⟨rfl, rfl⟩)
        go_ret
        exact ⟨by rw [hr.out]; rfl, hfin.out _ _⟩
  have kb1 : (k == 1) = false := by simpa using k1
  by_cases k23 : k = 2 ∨ k = 3
  · have h : Hid (actC vars locks ⟨k, v, n⟩ = (btw v 0 (vars - 1) && btw n (-100) 100)) := by show _ = _; simp [actC, k1, k23]
    generalize actC vars locks ⟨k, v, n⟩ = r at h ⊢
    rcases k23 with rfl | rfl
    all_goals
      cases hb : btw v 0 (vars - 1)
      · have hr : Hid (r = false) := by show _ = _; rw [h.out, hb]; rfl
        clear h
        go_enter Try.func20, Try.ntmps20
        go_wp2_with (go_at_call 13; refine (betweenI_calls _ _ _ _).mono ?_; rintro e w' ⟨rfl, rfl⟩)
        go_ret
        exact ⟨by rw [hr.out]; rfl, hfin.out _ _⟩
      · cases hn : btw n (-100) 100
        · have hr : Hid (r = false) := by show _ = _; rw [h.out, hb, hn]; rfl
          clear h
          go_enter Try.func20, Try.ntmps20
          go_wp2_with (go_at_call 13; refine (betweenI_calls _ _ _ _).mono ?_; rintro e w' ⟨rfl, rfl⟩)
          go_ret
          exact ⟨by rw [hr.out]; rfl, hfin.out _ _⟩
        · have hr : Hid (r = true) := by show _ = _; rw [h.out, hb, hn]; rfl
          clear h
          go_enter Try.func20, Try.ntmps20
          go_wp2_with (go_at_call 13; refine (betweenI_calls _ _ _ _).mono ?_; rintro e w' ⟨rfl, rfl⟩)
          go_ret
          exact ⟨by rw [hr.out]; rfl, hfin.out _ _⟩
  have kb2 : (k == 2) = false := by simp; omega
  have kb3 : (k == 3) = false := by simp; omega
  by_cases k45 : k = 4 ∨ k = 5
  · have h : Hid (actC vars locks ⟨k, v, n⟩ = (btw v 0 (locks - 1) && n == 0)) := by show _ = _; simp [actC, k1, k23, k45]
    generalize actC vars locks ⟨k, v, n⟩ = r at h ⊢
    rcases k45 with rfl | rfl
    all_goals
      cases hb : btw v 0 (locks - 1)
      · have hr : Hid (r = false) := by show _ = _; rw [h.out, hb]; rfl
        clear h
        go_enter Try.func20, Try.ntmps20
        go_wp2_with (go_at_call 13; refine (betweenI_calls _ _ _ _).mono ?_; rintro e w' ⟨rfl, rfl⟩)
        go_ret
        exact ⟨by rw [hr.out]; rfl, hfin.out _ _⟩
      · by_cases hn : n = 0
        · subst hn
          have hr : Hid (r = true) := by show _ = _; rw [h.out, hb]; rfl
          clear h
          go_enter Try.func20, Try.ntmps20
          go_wp2_with (go_at_call 13; refine (betweenI_calls _ _ _ _).mono ?_; rintro e w' ⟨rfl, rfl⟩)
          go_ret
          exact ⟨by rw [hr.out]; rfl, hfin.out _ _⟩
        · have hnb : (n == 0) = false := by simpa using hn
          have hr : Hid (r = false) := by show _ = _; rw [h.out, hb, hnb]; rfl
          clear h
          go_enter Try.func20, Try.ntmps20
          go_wp2_with (go_at_call 13; refine (betweenI_calls _ _ _ _).mono ?_; rintro e w' ⟨rfl, rfl⟩)
          go_ret
          exact ⟨by rw [hr.out]; rfl, hfin.out _ _⟩
  have kb4 : (k == 4) = false := by simp; omega
  have kb5 : (k == 5) = false := by simp; omega
  have hr : Hid (actC vars locks ⟨k, v, n⟩ = false) := by show _ = _; simp [actC, k1, k23, k45]
  generalize actC vars locks ⟨k, v, n⟩ = r at hr ⊢
  go_enter Try.func20, Try.ntmps20
  go_wp2_with (go_at_call 13; refine (betweenI_calls _ _ _ _).mono ?_; rintro e w' ⟨rfl, rfl⟩)
  go_ret
  exact ⟨by rw [hr.out]; rfl, hfin.out _ _⟩
end Go.Proofs.Ytohlkiadofmfpaa
