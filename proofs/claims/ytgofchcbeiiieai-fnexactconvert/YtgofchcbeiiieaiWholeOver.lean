/- spec.l1Whole of a float beyond every int64. -/
import Derived.Test.YtgofchcbeiiieaiWhole
namespace Go.Proofs.Ytgofchcbeiiieai
open Go.ChangeShapes Go.WideShapes Go.ChangeAt Go.RowKit

theorem whole_over_n (a low high : Int) (m k : Nat) (hs : a < 0) (hm : openM a = m) (he : openE a = (k : Int)) (h : openC a = 0) (hm1 : 0 < m) (hm2 : m ≤ 9007199254740991) (hk : 0 < k) (hk2 : k ≤ 2000) (hfit : ¬ m * 2 ^ k ≤ 9223372036854775807) (w : World) :
    Calls Try.prog 12 #[.int .i64 a, .int .i64 low, .int .i64 high] w fun e' w' => e' = .returned (.int .i64 (low)) ∧ Grown w w' := by
  have ho := open_lit2 a m (k : Int) 0 hm he h
  simp only [hs, decide_true] at ho
  clear hm he h hs
  have hfitH : Hid (¬ m * 2 ^ k ≤ 9223372036854775807) := hfit
  have hposH : Hid (∀ r : Nat, 0 < m * 2 ^ r) := fun r => Nat.mul_pos hm1 (Nat.two_pow_pos _)
  clear hfit
  go_enter Try.func12, Try.ntmps12
  go_wp2_with (go_at_call 9; refine (ho _).mono ?_; rintro e' w' ⟨rfl, rfl⟩)
  go_loop [8, 9] (fun n i => n = .int .i64 (m : Int) ∧ i = .int .i64 (k : Int)) (fun _ _ => 0)
  case atStart => exact ⟨rfl, rfl⟩
  case round =>
    obtain ⟨rfl, rfl⟩ := hrel
    have hk0 : ¬ ((k : Int) < 0) := by omega
    go_wp2
    go_loop [8, 10] (fun n i => ∃ r : Nat, r ≤ k ∧ m * 2 ^ r ≤ 9223372036854775807 ∧ n = .int .i64 ((m * 2 ^ r : Nat) : Int) ∧ i = .int .i64 ((k : Int) - r)) (fun _ i => (intOf i).toNat)
    case atStart => exact ⟨0, Nat.zero_le _, by simp; omega, by simp, by simp⟩
    case round =>
      obtain ⟨r, hr, hf, rfl, rfl⟩ := hrel
      have hp := hposH.out r
      have hrk : r < k := by
        rcases Nat.lt_or_ge r k with h | h
        · exact h
        · obtain rfl : r = k := by omega
          exact absurd hf hfitH.out
      have hst : m * 2 ^ (r + 1) = m * 2 ^ r * 2 := by rw [Nat.pow_succ, Nat.mul_assoc]
      have hstH : Hid (m * 2 ^ (r + 1) = m * 2 ^ r * 2) := hst
      clear hst
      generalize m * 2 ^ r = A at *
      have h1 : (0 : Int) < (k : Int) - r := by omega
      have h2 : (0 : Int) < (A : Int) := by omega
      by_cases hb : (4611686018427387903 : Int) < (A : Int)
      · clear hposH hfitH hstH
        go_wp2
        all_goals go_ret
        all_goals exact ⟨rfl, by repeat (first | exact Grown.refl _ | apply Grown.drew | apply Grown.alloc)⟩
      · have hb' : A ≤ 4611686018427387903 := by omega
        go_wp2
        go_round
        case rel => exact ⟨r + 1, by omega, by rw [hstH.out]; omega, by rw [hstH.out]; go_num, by go_num⟩
        case measure => simp [intOf]; omega
theorem whole_over_p (a low high : Int) (m k : Nat) (hs : ¬ a < 0) (hm : openM a = m) (he : openE a = (k : Int)) (h : openC a = 0) (hm1 : 0 < m) (hm2 : m ≤ 9007199254740991) (hk : 0 < k) (hk2 : k ≤ 2000) (hfit : ¬ m * 2 ^ k ≤ 9223372036854775807) (w : World) :
    Calls Try.prog 12 #[.int .i64 a, .int .i64 low, .int .i64 high] w fun e' w' => e' = .returned (.int .i64 (high)) ∧ Grown w w' := by
  have ho := open_lit2 a m (k : Int) 0 hm he h
  simp only [hs, decide_false] at ho
  clear hm he h hs
  have hfitH : Hid (¬ m * 2 ^ k ≤ 9223372036854775807) := hfit
  have hposH : Hid (∀ r : Nat, 0 < m * 2 ^ r) := fun r => Nat.mul_pos hm1 (Nat.two_pow_pos _)
  clear hfit
  go_enter Try.func12, Try.ntmps12
  go_wp2_with (go_at_call 9; refine (ho _).mono ?_; rintro e' w' ⟨rfl, rfl⟩)
  go_loop [8, 9] (fun n i => n = .int .i64 (m : Int) ∧ i = .int .i64 (k : Int)) (fun _ _ => 0)
  case atStart => exact ⟨rfl, rfl⟩
  case round =>
    obtain ⟨rfl, rfl⟩ := hrel
    have hk0 : ¬ ((k : Int) < 0) := by omega
    go_wp2
    go_loop [8, 10] (fun n i => ∃ r : Nat, r ≤ k ∧ m * 2 ^ r ≤ 9223372036854775807 ∧ n = .int .i64 ((m * 2 ^ r : Nat) : Int) ∧ i = .int .i64 ((k : Int) - r)) (fun _ i => (intOf i).toNat)
    case atStart => exact ⟨0, Nat.zero_le _, by simp; omega, by simp, by simp⟩
    case round =>
      obtain ⟨r, hr, hf, rfl, rfl⟩ := hrel
      have hp := hposH.out r
      have hrk : r < k := by
        rcases Nat.lt_or_ge r k with h | h
        · exact h
        · obtain rfl : r = k := by omega
          exact absurd hf hfitH.out
      have hst : m * 2 ^ (r + 1) = m * 2 ^ r * 2 := by rw [Nat.pow_succ, Nat.mul_assoc]
      have hstH : Hid (m * 2 ^ (r + 1) = m * 2 ^ r * 2) := hst
      clear hst
      generalize m * 2 ^ r = A at *
      have h1 : (0 : Int) < (k : Int) - r := by omega
      have h2 : (0 : Int) < (A : Int) := by omega
      by_cases hb : (4611686018427387903 : Int) < (A : Int)
      · clear hposH hfitH hstH
        go_wp2
        all_goals go_ret
        all_goals exact ⟨rfl, by repeat (first | exact Grown.refl _ | apply Grown.drew | apply Grown.alloc)⟩
      · have hb' : A ≤ 4611686018427387903 := by omega
        go_wp2
        go_round
        case rel => exact ⟨r + 1, by omega, by rw [hstH.out]; omega, by rw [hstH.out]; go_num, by go_num⟩
        case measure => simp [intOf]; omega
end Go.Proofs.Ytgofchcbeiiieai
