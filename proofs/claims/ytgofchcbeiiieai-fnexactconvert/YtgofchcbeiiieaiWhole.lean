/- spec.l1Whole: a float as a whole number, towards 0, within bounds: its loops, told by plain functions. -/
import Derived.Test.YtgofchcbeiiieaiWalk1
namespace Go.Proofs.Ytgofchcbeiiieai
open Go.ChangeShapes Go.WideShapes Go.ChangeAt Go.RowKit

theorem open_lit2 (a m e c : Int) (hm : openM a = m) (he : openE a = e) (hc : openC a = c) (w : World) :
    Calls Try.prog 9 #[.int .i64 a] w fun e' w' => e' = .returned (.agg #[.bool (decide (a < 0)), .int .i64 m, .int .i64 e, .int .i64 c]) ∧ w' = (w.alloc (.cells #[.bool (decide (a < 0)), .int .i64 m, .int .i64 e, .int .i64 c] 27)).alloc (.cells #[.bool (decide (a < 0)), .int .i64 m, .int .i64 e, .int .i64 c] 27) := by
  subst hm he hc; exact open_calls a w

/-- What is answered of a whole number n and its sign. -/
def pickW (s : Bool) (n low high : Int) : Int := if s then (if -n < low then low else -n) else (if high < n then high else n)

theorem whole_nan (a low high : Int) (h : openC a = 2) (w : World) :
    Calls Try.prog 12 #[.int .i64 a, .int .i64 low, .int .i64 high] w fun e' w' => e' = .returned (.int .i64 0) ∧ Grown w w' := by
  have ho := open_lit2 a (openM a) (openE a) 2 rfl rfl h
  clear h
  generalize openM a = m at *
  generalize openE a = e at *
  go_enter Try.func12, Try.ntmps12
  go_wp2_with (go_at_call 9; refine (ho _).mono ?_; rintro e' w' ⟨rfl, rfl⟩)
  go_ret
  exact ⟨rfl, by repeat (first | exact Grown.refl _ | apply Grown.drew | apply Grown.alloc)⟩

def downW (m k : Nat) : Int := ((m / 2 ^ k : Nat) : Int)
def upW (m k : Nat) : Int := ((m * 2 ^ k : Nat) : Int)
theorem whole_inf_n (a low high : Int) (hs : a < 0) (hm : openM a = 0) (he : openE a = 0) (h : openC a = 1) (w : World) :
    Calls Try.prog 12 #[.int .i64 a, .int .i64 low, .int .i64 high] w fun e' w' => e' = .returned (.int .i64 (low)) ∧ Grown w w' := by
  have ho := open_lit2 a 0 0 1 hm he h
  simp only [hs, decide_true] at ho
  clear hm he h hs
  go_enter Try.func12, Try.ntmps12
  go_wp2_with (go_at_call 9; refine (ho _).mono ?_; rintro e' w' ⟨rfl, rfl⟩)
  go_loop [8, 9] (fun n i => n = .int .i64 0 ∧ i = .int .i64 0) (fun _ _ => 0)
  case atStart => exact ⟨rfl, rfl⟩
  case round =>
    obtain ⟨rfl, rfl⟩ := hrel
    go_wp2
    go_loop [8, 10] (fun n i => n = .int .i64 0 ∧ i = .int .i64 0) (fun _ _ => 0)
    case atStart => exact ⟨rfl, rfl⟩
    case round =>
      obtain ⟨rfl, rfl⟩ := hrel
      go_wp2
      all_goals go_ret
      all_goals exact ⟨rfl, by repeat (first | exact Grown.refl _ | apply Grown.drew | apply Grown.alloc)⟩
theorem whole_down_n (a low high : Int) (m k : Nat) (hs : a < 0) (hm : openM a = m) (he : openE a = -(k : Int)) (h : openC a = 0) (hm2 : m < 9007199254740992) (hk : k ≤ 2000) (w : World) :
    Calls Try.prog 12 #[.int .i64 a, .int .i64 low, .int .i64 high] w fun e' w' => e' = .returned (.int .i64 (pickW true (downW m k) low high)) ∧ Grown w w' := by
  have ho := open_lit2 a m (-(k : Int)) 0 hm he h
  simp only [hs, decide_true] at ho
  clear hm he h hs
  go_enter Try.func12, Try.ntmps12
  go_wp2_with (go_at_call 9; refine (ho _).mono ?_; rintro e' w' ⟨rfl, rfl⟩)
  go_loop [8, 9] (fun n i => ∃ r : Nat, r ≤ k ∧ n = .int .i64 ((m / 2 ^ r : Nat) : Int) ∧ i = .int .i64 ((r : Int) - k)) (fun _ i => (-(intOf i)).toNat)
  case atStart => exact ⟨0, Nat.zero_le _, by simp, by simp⟩
  case round =>
    obtain ⟨r, hr, rfl, rfl⟩ := hrel
    have hle : m / 2 ^ r ≤ m := Nat.div_le_self _ _
    have hst : m / 2 ^ (r + 1) = m / 2 ^ r / 2 := by rw [Nat.pow_succ, Nat.div_div_eq_div_mul]
    have hstH : Hid (m / 2 ^ (r + 1) = m / 2 ^ r / 2) := hst
    have hend : Hid (m / 2 ^ r = 0 → m / 2 ^ k = 0) := fun h0 => by
      have : m / 2 ^ k ≤ m / 2 ^ r := Nat.div_le_div_left (Nat.pow_le_pow_right (by decide) hr) (Nat.two_pow_pos _)
      rw [h0] at this
      exact Nat.eq_zero_of_le_zero this
    have hrk : Hid (r = k → m / 2 ^ r = m / 2 ^ k) := fun h => by rw [h]
    clear hst
    by_cases hc : r < k ∧ 0 < m / 2 ^ r
    · obtain ⟨hc1, hc2⟩ := hc
      generalize m / 2 ^ r = A at *
      have h1 : (r : Int) - k < 0 := by omega
      have h2 : (0 : Int) < (A : Int) := by omega
      have h3 : A ≤ 9007199254740991 := by omega
      clear hle
      go_wp2
      go_round
      case rel => exact ⟨r + 1, by omega, by rw [hstH.out]; go_num, by go_num⟩
      case measure => simp [intOf]; omega
    · have hq : m / 2 ^ r = m / 2 ^ k := by
        by_cases hrk2 : r = k
        · exact hrk.out hrk2
        · have h0 : m / 2 ^ r = 0 := Nat.eq_zero_of_not_pos (fun hp => hc ⟨by omega, hp⟩)
          rw [h0, hend.out h0]
      clear hstH hend hrk
      rw [hq] at hc hle ⊢
      have hBq : Hid (∃ B, m / 2 ^ k = B) := ⟨_, rfl⟩
      obtain ⟨B, hB⟩ := hBq.out
      rw [hB] at hc hle ⊢
      have hBH : Hid (m / 2 ^ k = B) := hB
      clear hB hBq hq
      obtain ⟨z, hz⟩ : ∃ z : Int, z = (B : Int) := ⟨_, rfl⟩
      rw [← hz]
      have hz1 : 0 ≤ z := by omega
      have hz2 : z ≤ 9007199254740991 := by omega
      have hzH : Hid (z = (B : Int)) := hz
      have hc' : ¬ ((r : Int) - k < 0) ∨ ((r : Int) - k < 0 ∧ ¬ (0 < z)) := by omega
      clear hz hc hle
      have hk0 : ¬ (0 < -(k : Int)) := by omega
      rcases hc' with hc' | ⟨hc1, hc2⟩
      · go_wp2
        go_loop [8, 10] (fun n i => n = .int .i64 z ∧ i = .int .i64 (-(k : Int))) (fun _ _ => 0)
        case atStart => exact ⟨rfl, rfl⟩
        case round =>
          obtain ⟨rfl, rfl⟩ := hrel
          go_wp2
          all_goals go_ret
          all_goals have hz := hzH.out
          all_goals have hB : downW m k = (B : Int) := by unfold downW; rw [hBH.out]
          all_goals refine ⟨?_, by repeat (first | exact Grown.refl _ | apply Grown.drew | apply Grown.alloc)⟩
          all_goals refine congrArg (fun z => Ending.returned (Value.int .i64 z)) ?_
          all_goals rw [hB]
          all_goals unfold pickW
          all_goals simp only [if_true]
          all_goals split <;> (try unfold wrap64) <;> omega
      · go_wp2
        go_loop [8, 10] (fun n i => n = .int .i64 z ∧ i = .int .i64 (-(k : Int))) (fun _ _ => 0)
        case atStart => exact ⟨rfl, rfl⟩
        case round =>
          obtain ⟨rfl, rfl⟩ := hrel
          go_wp2
          all_goals go_ret
          all_goals have hz := hzH.out
          all_goals have hB : downW m k = (B : Int) := by unfold downW; rw [hBH.out]
          all_goals refine ⟨?_, by repeat (first | exact Grown.refl _ | apply Grown.drew | apply Grown.alloc)⟩
          all_goals refine congrArg (fun z => Ending.returned (Value.int .i64 z)) ?_
          all_goals rw [hB]
          all_goals unfold pickW
          all_goals simp only [if_true]
          all_goals split <;> (try unfold wrap64) <;> omega
theorem whole_up_n (a low high : Int) (m k : Nat) (hs : a < 0) (hm : openM a = m) (he : openE a = (k : Int)) (h : openC a = 0) (hm1 : 0 < m) (hk : 0 < k) (hk2 : k ≤ 2000) (hfit : m * 2 ^ k ≤ 9223372036854775807) (w : World) :
    Calls Try.prog 12 #[.int .i64 a, .int .i64 low, .int .i64 high] w fun e' w' => e' = .returned (.int .i64 (pickW true (upW m k) low high)) ∧ Grown w w' := by
  have ho := open_lit2 a m (k : Int) 0 hm he h
  simp only [hs, decide_true] at ho
  clear hm he h hs
  have hfitH : Hid (∀ r : Nat, r ≤ k → m * 2 ^ r ≤ 9223372036854775807) := fun r hr => Nat.le_trans (Nat.mul_le_mul_left _ (Nat.pow_le_pow_right (by decide) hr)) hfit
  have hposH : Hid (∀ r : Nat, 0 < m * 2 ^ r) := fun r => Nat.mul_pos hm1 (Nat.two_pow_pos _)
  have hm2 : m ≤ 9223372036854775807 := by have := hfitH.out 0 (Nat.zero_le _); simpa using this
  clear hfit
  go_enter Try.func12, Try.ntmps12
  go_wp2_with (go_at_call 9; refine (ho _).mono ?_; rintro e' w' ⟨rfl, rfl⟩)
  go_loop [8, 9] (fun n i => n = .int .i64 (m : Int) ∧ i = .int .i64 (k : Int)) (fun _ _ => 0)
  case atStart => exact ⟨rfl, rfl⟩
  case round =>
    obtain ⟨rfl, rfl⟩ := hrel
    have hk0 : ¬ ((k : Int) < 0) := by omega
    go_wp2
    go_loop [8, 10] (fun n i => ∃ r : Nat, r ≤ k ∧ n = .int .i64 ((m * 2 ^ r : Nat) : Int) ∧ i = .int .i64 ((k : Int) - r)) (fun _ i => (intOf i).toNat)
    case atStart => exact ⟨0, Nat.zero_le _, by simp, by simp⟩
    case round =>
      obtain ⟨r, hr, rfl, rfl⟩ := hrel
      have hp := hposH.out r
      by_cases hc : r < k
      · have hf := hfitH.out (r + 1) (by omega)
        have hst : m * 2 ^ (r + 1) = m * 2 ^ r * 2 := by rw [Nat.pow_succ, Nat.mul_assoc]
        have hstH : Hid (m * 2 ^ (r + 1) = m * 2 ^ r * 2) := hst
        rw [hst] at hf
        clear hst
        generalize m * 2 ^ r = A at *
        have h1 : (0 : Int) < (k : Int) - r := by omega
        have h2 : (0 : Int) < (A : Int) := by omega
        have h3 : ¬ ((4611686018427387903 : Int) < (A : Int)) := by omega
        go_wp2
        go_round
        case rel => exact ⟨r + 1, by omega, by rw [hstH.out]; go_num, by go_num⟩
        case measure => simp [intOf]; omega
      · obtain rfl : r = k := by omega
        have hf := hfitH.out r (by omega)
        have hBq : Hid (∃ B, m * 2 ^ r = B) := ⟨_, rfl⟩
        obtain ⟨B, hB⟩ := hBq.out
        rw [hB] at hf hp ⊢
        have hBH : Hid (m * 2 ^ r = B) := hB
        clear hB hBq hfitH hposH
        obtain ⟨z, hz⟩ : ∃ z : Int, z = (B : Int) := ⟨_, rfl⟩
        rw [← hz]
        have hz1 : 0 < z := by omega
        have hz2 : z ≤ 9223372036854775807 := by omega
        have hzH : Hid (z = (B : Int)) := hz
        have h1 : ¬ ((0 : Int) < (r : Int) - r) := by omega
        clear hz hf hp
        go_wp2
        all_goals go_ret
        all_goals have hz := hzH.out
        all_goals have hB : upW m r = (B : Int) := by unfold upW; rw [hBH.out]
        all_goals refine ⟨?_, by repeat (first | exact Grown.refl _ | apply Grown.drew | apply Grown.alloc)⟩
        all_goals refine congrArg (fun z => Ending.returned (Value.int .i64 z)) ?_
        all_goals rw [hB]
        all_goals unfold pickW
        all_goals simp only [if_true]
        all_goals split <;> (try unfold wrap64) <;> omega
theorem whole_inf_p (a low high : Int) (hs : ¬ a < 0) (hm : openM a = 0) (he : openE a = 0) (h : openC a = 1) (w : World) :
    Calls Try.prog 12 #[.int .i64 a, .int .i64 low, .int .i64 high] w fun e' w' => e' = .returned (.int .i64 (high)) ∧ Grown w w' := by
  have ho := open_lit2 a 0 0 1 hm he h
  simp only [hs, decide_false] at ho
  clear hm he h hs
  go_enter Try.func12, Try.ntmps12
  go_wp2_with (go_at_call 9; refine (ho _).mono ?_; rintro e' w' ⟨rfl, rfl⟩)
  go_loop [8, 9] (fun n i => n = .int .i64 0 ∧ i = .int .i64 0) (fun _ _ => 0)
  case atStart => exact ⟨rfl, rfl⟩
  case round =>
    obtain ⟨rfl, rfl⟩ := hrel
    go_wp2
    go_loop [8, 10] (fun n i => n = .int .i64 0 ∧ i = .int .i64 0) (fun _ _ => 0)
    case atStart => exact ⟨rfl, rfl⟩
    case round =>
      obtain ⟨rfl, rfl⟩ := hrel
      go_wp2
      all_goals go_ret
      all_goals exact ⟨rfl, by repeat (first | exact Grown.refl _ | apply Grown.drew | apply Grown.alloc)⟩
theorem whole_down_p (a low high : Int) (m k : Nat) (hs : ¬ a < 0) (hm : openM a = m) (he : openE a = -(k : Int)) (h : openC a = 0) (hm2 : m < 9007199254740992) (hk : k ≤ 2000) (w : World) :
    Calls Try.prog 12 #[.int .i64 a, .int .i64 low, .int .i64 high] w fun e' w' => e' = .returned (.int .i64 (pickW false (downW m k) low high)) ∧ Grown w w' := by
  have ho := open_lit2 a m (-(k : Int)) 0 hm he h
  simp only [hs, decide_false] at ho
  clear hm he h hs
  go_enter Try.func12, Try.ntmps12
  go_wp2_with (go_at_call 9; refine (ho _).mono ?_; rintro e' w' ⟨rfl, rfl⟩)
  go_loop [8, 9] (fun n i => ∃ r : Nat, r ≤ k ∧ n = .int .i64 ((m / 2 ^ r : Nat) : Int) ∧ i = .int .i64 ((r : Int) - k)) (fun _ i => (-(intOf i)).toNat)
  case atStart => exact ⟨0, Nat.zero_le _, by simp, by simp⟩
  case round =>
    obtain ⟨r, hr, rfl, rfl⟩ := hrel
    have hle : m / 2 ^ r ≤ m := Nat.div_le_self _ _
    have hst : m / 2 ^ (r + 1) = m / 2 ^ r / 2 := by rw [Nat.pow_succ, Nat.div_div_eq_div_mul]
    have hstH : Hid (m / 2 ^ (r + 1) = m / 2 ^ r / 2) := hst
    have hend : Hid (m / 2 ^ r = 0 → m / 2 ^ k = 0) := fun h0 => by
      have : m / 2 ^ k ≤ m / 2 ^ r := Nat.div_le_div_left (Nat.pow_le_pow_right (by decide) hr) (Nat.two_pow_pos _)
      rw [h0] at this
      exact Nat.eq_zero_of_le_zero this
    have hrk : Hid (r = k → m / 2 ^ r = m / 2 ^ k) := fun h => by rw [h]
    clear hst
    by_cases hc : r < k ∧ 0 < m / 2 ^ r
    · obtain ⟨hc1, hc2⟩ := hc
      generalize m / 2 ^ r = A at *
      have h1 : (r : Int) - k < 0 := by omega
      have h2 : (0 : Int) < (A : Int) := by omega
      have h3 : A ≤ 9007199254740991 := by omega
      clear hle
      go_wp2
      go_round
      case rel => exact ⟨r + 1, by omega, by rw [hstH.out]; go_num, by go_num⟩
      case measure => simp [intOf]; omega
    · have hq : m / 2 ^ r = m / 2 ^ k := by
        by_cases hrk2 : r = k
        · exact hrk.out hrk2
        · have h0 : m / 2 ^ r = 0 := Nat.eq_zero_of_not_pos (fun hp => hc ⟨by omega, hp⟩)
          rw [h0, hend.out h0]
      clear hstH hend hrk
      rw [hq] at hc hle ⊢
      have hBq : Hid (∃ B, m / 2 ^ k = B) := ⟨_, rfl⟩
      obtain ⟨B, hB⟩ := hBq.out
      rw [hB] at hc hle ⊢
      have hBH : Hid (m / 2 ^ k = B) := hB
      clear hB hBq hq
      obtain ⟨z, hz⟩ : ∃ z : Int, z = (B : Int) := ⟨_, rfl⟩
      rw [← hz]
      have hz1 : 0 ≤ z := by omega
      have hz2 : z ≤ 9007199254740991 := by omega
      have hzH : Hid (z = (B : Int)) := hz
      have hc' : ¬ ((r : Int) - k < 0) ∨ ((r : Int) - k < 0 ∧ ¬ (0 < z)) := by omega
      clear hz hc hle
      have hk0 : ¬ (0 < -(k : Int)) := by omega
      rcases hc' with hc' | ⟨hc1, hc2⟩
      · go_wp2
        go_loop [8, 10] (fun n i => n = .int .i64 z ∧ i = .int .i64 (-(k : Int))) (fun _ _ => 0)
        case atStart => exact ⟨rfl, rfl⟩
        case round =>
          obtain ⟨rfl, rfl⟩ := hrel
          go_wp2
          all_goals go_ret
          all_goals have hz := hzH.out
          all_goals have hB : downW m k = (B : Int) := by unfold downW; rw [hBH.out]
          all_goals refine ⟨?_, by repeat (first | exact Grown.refl _ | apply Grown.drew | apply Grown.alloc)⟩
          all_goals refine congrArg (fun z => Ending.returned (Value.int .i64 z)) ?_
          all_goals rw [hB]
          all_goals unfold pickW
          all_goals simp only [if_false, Bool.false_eq_true]
          all_goals split <;> (try unfold wrap64) <;> omega
      · go_wp2
        go_loop [8, 10] (fun n i => n = .int .i64 z ∧ i = .int .i64 (-(k : Int))) (fun _ _ => 0)
        case atStart => exact ⟨rfl, rfl⟩
        case round =>
          obtain ⟨rfl, rfl⟩ := hrel
          go_wp2
          all_goals go_ret
          all_goals have hz := hzH.out
          all_goals have hB : downW m k = (B : Int) := by unfold downW; rw [hBH.out]
          all_goals refine ⟨?_, by repeat (first | exact Grown.refl _ | apply Grown.drew | apply Grown.alloc)⟩
          all_goals refine congrArg (fun z => Ending.returned (Value.int .i64 z)) ?_
          all_goals rw [hB]
          all_goals unfold pickW
          all_goals simp only [if_false, Bool.false_eq_true]
          all_goals split <;> (try unfold wrap64) <;> omega
theorem whole_up_p (a low high : Int) (m k : Nat) (hs : ¬ a < 0) (hm : openM a = m) (he : openE a = (k : Int)) (h : openC a = 0) (hm1 : 0 < m) (hk : 0 < k) (hk2 : k ≤ 2000) (hfit : m * 2 ^ k ≤ 9223372036854775807) (w : World) :
    Calls Try.prog 12 #[.int .i64 a, .int .i64 low, .int .i64 high] w fun e' w' => e' = .returned (.int .i64 (pickW false (upW m k) low high)) ∧ Grown w w' := by
  have ho := open_lit2 a m (k : Int) 0 hm he h
  simp only [hs, decide_false] at ho
  clear hm he h hs
  have hfitH : Hid (∀ r : Nat, r ≤ k → m * 2 ^ r ≤ 9223372036854775807) := fun r hr => Nat.le_trans (Nat.mul_le_mul_left _ (Nat.pow_le_pow_right (by decide) hr)) hfit
  have hposH : Hid (∀ r : Nat, 0 < m * 2 ^ r) := fun r => Nat.mul_pos hm1 (Nat.two_pow_pos _)
  have hm2 : m ≤ 9223372036854775807 := by have := hfitH.out 0 (Nat.zero_le _); simpa using this
  clear hfit
  go_enter Try.func12, Try.ntmps12
  go_wp2_with (go_at_call 9; refine (ho _).mono ?_; rintro e' w' ⟨rfl, rfl⟩)
  go_loop [8, 9] (fun n i => n = .int .i64 (m : Int) ∧ i = .int .i64 (k : Int)) (fun _ _ => 0)
  case atStart => exact ⟨rfl, rfl⟩
  case round =>
    obtain ⟨rfl, rfl⟩ := hrel
    have hk0 : ¬ ((k : Int) < 0) := by omega
    go_wp2
    go_loop [8, 10] (fun n i => ∃ r : Nat, r ≤ k ∧ n = .int .i64 ((m * 2 ^ r : Nat) : Int) ∧ i = .int .i64 ((k : Int) - r)) (fun _ i => (intOf i).toNat)
    case atStart => exact ⟨0, Nat.zero_le _, by simp, by simp⟩
    case round =>
      obtain ⟨r, hr, rfl, rfl⟩ := hrel
      have hp := hposH.out r
      by_cases hc : r < k
      · have hf := hfitH.out (r + 1) (by omega)
        have hst : m * 2 ^ (r + 1) = m * 2 ^ r * 2 := by rw [Nat.pow_succ, Nat.mul_assoc]
        have hstH : Hid (m * 2 ^ (r + 1) = m * 2 ^ r * 2) := hst
        rw [hst] at hf
        clear hst
        generalize m * 2 ^ r = A at *
        have h1 : (0 : Int) < (k : Int) - r := by omega
        have h2 : (0 : Int) < (A : Int) := by omega
        have h3 : ¬ ((4611686018427387903 : Int) < (A : Int)) := by omega
        go_wp2
        go_round
        case rel => exact ⟨r + 1, by omega, by rw [hstH.out]; go_num, by go_num⟩
        case measure => simp [intOf]; omega
      · obtain rfl : r = k := by omega
        have hf := hfitH.out r (by omega)
        have hBq : Hid (∃ B, m * 2 ^ r = B) := ⟨_, rfl⟩
        obtain ⟨B, hB⟩ := hBq.out
        rw [hB] at hf hp ⊢
        have hBH : Hid (m * 2 ^ r = B) := hB
        clear hB hBq hfitH hposH
        obtain ⟨z, hz⟩ : ∃ z : Int, z = (B : Int) := ⟨_, rfl⟩
        rw [← hz]
        have hz1 : 0 < z := by omega
        have hz2 : z ≤ 9223372036854775807 := by omega
        have hzH : Hid (z = (B : Int)) := hz
        have h1 : ¬ ((0 : Int) < (r : Int) - r) := by omega
        clear hz hf hp
        go_wp2
        all_goals go_ret
        all_goals have hz := hzH.out
        all_goals have hB : upW m r = (B : Int) := by unfold upW; rw [hBH.out]
        all_goals refine ⟨?_, by repeat (first | exact Grown.refl _ | apply Grown.drew | apply Grown.alloc)⟩
        all_goals refine congrArg (fun z => Ending.returned (Value.int .i64 z)) ?_
        all_goals rw [hB]
        all_goals unfold pickW
        all_goals simp only [if_false, Bool.false_eq_true]
        all_goals split <;> (try unfold wrap64) <;> omega
end Go.Proofs.Ytgofchcbeiiieai
