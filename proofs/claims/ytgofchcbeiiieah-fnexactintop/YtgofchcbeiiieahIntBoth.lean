/- impl.IntOp and spec.IntOp answer alike at every op and every two int64. -/
import Derived.Test.YtgofchcbeiiieahLongBoth
import Derived.Test.YtgofchcbeiiieahSpecShift
namespace Go.Proofs.Ytgofchcbeiiieah
open Go.ChangeShapes Go.WideShapes Go.ChangeAt Go.RowKit

theorem halves_eq (u : Int) (h0 : 0 ≤ u) (h1 : u < 4294967296) : ∀ k : Nat, halves u k = u / 2 ^ k ∧ 0 ≤ u / 2 ^ k ∧ u / 2 ^ k < 4294967296
  | 0 => by simp [halves]; omega
  | k + 1 => by
    obtain ⟨e, h2, h3⟩ := halves_eq u h0 h1 k
    have ed : u / 2 ^ (k + 1) = u / 2 ^ k / 2 := by
      rw [Int.pow_succ, Int.ediv_ediv_of_nonneg (by exact Int.le_of_lt (Int.pow_pos (by decide)))]
    refine ⟨?_, ?_, ?_⟩
    · show wrap64 ((halves u k).tdiv 2) = _
      rw [e, Int.tdiv_eq_ediv_of_nonneg h2, ed, wrap64_id _ (by omega) (by omega)]
    · rw [ed]; omega
    · rw [ed]; omega

theorem wrap32_mul (x y : Int) : wrap32 (wrap32 x * y) = wrap32 (x * y) := by
  have e : wrap32 x = x - (x + 2147483648) / 4294967296 * 4294967296 := by unfold wrap32; omega
  have e2 : wrap32 x * y = x * y - 4294967296 * ((x + 2147483648) / 4294967296 * y) := by
    rw [e, Int.sub_mul]
    have : (x + 2147483648) / 4294967296 * 4294967296 * y = 4294967296 * ((x + 2147483648) / 4294967296 * y) := by ac_rfl
    rw [this]
  rw [e2]; unfold wrap32; omega
theorem wrap32_64 (x : Int) : wrap32 (wrap64 x) = wrap32 x := by unfold wrap32 wrap64; omega
theorem wrap32_32 (x : Int) : wrap32 (wrap32 x) = wrap32 x := by unfold wrap32; omega
theorem doubles_eq (a : Int) : ∀ k : Nat, doubles (wrap32 a) k = wrap32 (a * 2 ^ k)
  | 0 => by simp [doubles]
  | k + 1 => by
    show wrap32 (wrap64 (doubles (wrap32 a) k * 2)) = _
    rw [wrap32_64, doubles_eq a k, wrap32_mul, Int.pow_succ, Int.mul_assoc]
theorem floors_eq (a : Int) : ∀ k : Nat, floors a k = a / 2 ^ k
  | 0 => by simp [floors]
  | k + 1 => by
    show floors a k / 2 = _
    rw [floors_eq a k, Int.pow_succ, Int.ediv_ediv_of_nonneg (by exact Int.le_of_lt (Int.pow_pos (by decide)))]

theorem div_in (a : Int) (k : Nat) (h0 : -2147483648 ≤ a) (h1 : a < 2147483648) : -2147483648 ≤ a / 2 ^ k ∧ a / 2 ^ k < 2147483648 := by
  have hp : (0 : Int) < 2 ^ k := Int.pow_pos (by decide)
  constructor
  · rw [Int.le_ediv_iff_mul_le hp]
    have : (2147483648 : Int) * 1 ≤ 2147483648 * 2 ^ k := Int.mul_le_mul_of_nonneg_left (by omega) (by decide)
    omega
  · rw [Int.ediv_lt_iff_lt_mul hp]
    have : (2147483648 : Int) * 1 ≤ 2147483648 * 2 ^ k := Int.mul_le_mul_of_nonneg_left (by omega) (by decide)
    omega

theorem shl_agree (a : Int) (n : Nat) (hn : n < 32) : wrap32 (shl64 (wrap32 a) n) = doubles (wrap32 a) n := by
  have e : ((n : Int) % 64).toNat = n := by omega
  rw [doubles_eq, shl64, e, wrap32_64, wrap32_mul]
theorem shr_agree (a : Int) (n : Nat) (hn : n < 32) : wrap32 (shr64 (wrap32 a) n) = floors (wrap32 a) n := by
  have e : ((n : Int) % 64).toNat = n := by omega
  have hr := wrap32_in a
  have hd := div_in (wrap32 a) n hr.1 hr.2
  rw [floors_eq, shr64, e, Int.fdiv_eq_ediv_of_nonneg _ (by exact Int.le_of_lt (Int.pow_pos (by decide)))]
  unfold wrap32 at *; omega
theorem ushr_agree (a : Int) (n : Nat) (hn : n < 32) : wrap32 (ushr64 (wrap32 a % 4294967296) n) = wrap32 (halves (wrap32 a % 4294967296) n) := by
  have e : ((n : Int) % 64).toNat = n := by omega
  have e2 : wrap32 a % 4294967296 % 18446744073709551616 = wrap32 a % 4294967296 := by omega
  rw [(halves_eq _ (by omega) (by omega) n).1, ushr64, e, e2, wrap32_64, Int.fdiv_eq_ediv_of_nonneg _ (by exact Int.le_of_lt (Int.pow_pos (by decide)))]

theorem implInt17 (a b : Int) (w : World) :
    Calls Try.prog 10 #[.int .i64 17, .int .i64 a, .int .i64 b] w fun e w' => e = .returned (.tuple #[.int .i64 (doubles (wrap32 a) (wrap32 b % 32).toNat), .bool true]) ∧ Grown w w' := by
  have hb := and31 (wrap32 b)
  have hn : ((wrap32 b % 32).toNat : Int) = wrap32 b % 32 := by omega
  have hl : (wrap32 b % 32).toNat < 32 := by omega
  generalize hN : (wrap32 b % 32).toNat = n at hn hl ⊢
  rw [← hn] at hb
  clear hN hn
  have hx := shl_agree a n hl
  clear hl
  go_enter Try.func10, Try.ntmps10
  go_wp2_with (first | (go_at_call 8; refine (implWrap _ _).mono ?_; rintro e w' ⟨rfl, he⟩; subst he) | (go_at_call 12; refine (long17 _ _ _).mono ?_; rintro e w' ⟨rfl, hg⟩))
  go_ret2
  exact ⟨rfl, by assumption⟩
theorem implInt18 (a b : Int) (w : World) :
    Calls Try.prog 10 #[.int .i64 18, .int .i64 a, .int .i64 b] w fun e w' => e = .returned (.tuple #[.int .i64 (floors (wrap32 a) (wrap32 b % 32).toNat), .bool true]) ∧ Grown w w' := by
  have hb := and31 (wrap32 b)
  have hn : ((wrap32 b % 32).toNat : Int) = wrap32 b % 32 := by omega
  have hl : (wrap32 b % 32).toNat < 32 := by omega
  generalize hN : (wrap32 b % 32).toNat = n at hn hl ⊢
  rw [← hn] at hb
  clear hN hn
  have hx := shr_agree a n hl
  clear hl
  go_enter Try.func10, Try.ntmps10
  go_wp2_with (first | (go_at_call 8; refine (implWrap _ _).mono ?_; rintro e w' ⟨rfl, he⟩; subst he) | (go_at_call 12; refine (long18 _ _ _).mono ?_; rintro e w' ⟨rfl, hg⟩))
  go_ret2
  exact ⟨rfl, by assumption⟩
theorem implInt19 (a b : Int) (w : World) :
    Calls Try.prog 10 #[.int .i64 19, .int .i64 a, .int .i64 b] w fun e w' => e = .returned (.tuple #[.int .i64 (wrap32 (halves (wrap32 a % 4294967296) (wrap32 b % 32).toNat)), .bool true]) ∧ Grown w w' := by
  have hb := and31 (wrap32 b)
  have hn : ((wrap32 b % 32).toNat : Int) = wrap32 b % 32 := by omega
  have hl : (wrap32 b % 32).toNat < 32 := by omega
  generalize hN : (wrap32 b % 32).toNat = n at hn hl ⊢
  rw [← hn] at hb
  clear hN hn
  have hx := ushr_agree a n hl
  clear hl
  go_enter Try.func10, Try.ntmps10
  go_wp2_with (first | (go_at_call 8; refine (implWrap _ _).mono ?_; rintro e w' ⟨rfl, he⟩; subst he) | (go_at_call 12; refine (long19 _ _ _).mono ?_; rintro e w' ⟨rfl, hg⟩))
  go_ret2
  exact ⟨rfl, by assumption⟩

/-- What both answer at one argument: the number and the word beside it. -/
def IntBoth (op a b : Int) (r : Int) (ok : Bool) : Prop :=
  (∀ w, Calls Try.prog 9 #[.int .i64 op, .int .i64 a, .int .i64 b] w fun e w' => e = .returned (.tuple #[.int .i64 r, .bool ok]) ∧ w' = w) ∧
  (∀ w, Calls Try.prog 10 #[.int .i64 op, .int .i64 a, .int .i64 b] w fun e w' => e = .returned (.tuple #[.int .i64 r, .bool ok]) ∧ Grown w w')

theorem int_other (op a b : Int) (h17 : (op == 17) = false) (h18 : (op == 18) = false) (h19 : (op == 19) = false) : ∃ r ok, IntBoth op a b r ok := by
  obtain ⟨r, ok, hs, hi⟩ := long_both op (wrap32 a) (wrap32 b) (by have := wrap32_in a; omega)
  refine ⟨wrap32 r, ok, fun w => ?_, fun w => ?_⟩
  · clear hi
    go_enter Try.func9, Try.ntmps9
    go_wp2_with (first | (go_at_call 7; refine (specWrap _ _).mono ?_; rintro e w' ⟨rfl, he⟩; subst he) | (go_at_call 11; refine (hs _).mono ?_; rintro e w' ⟨rfl, he⟩; subst he))
    go_ret2
    exact ⟨rfl, rfl⟩
  · clear hs
    go_enter Try.func10, Try.ntmps10
    go_wp2_with (first | (go_at_call 8; refine (implWrap _ _).mono ?_; rintro e w' ⟨rfl, he⟩; subst he) | (go_at_call 12; refine (hi _).mono ?_; rintro e w' ⟨rfl, hg⟩))
    go_ret2
    exact ⟨rfl, by assumption⟩

theorem int_both (op a b : Int) : ∃ r ok, IntBoth op a b r ok := by
  by_cases h17 : op = 17
  · subst h17; exact ⟨_, _, fun w => specInt17 a b w, fun w => implInt17 a b w⟩
  by_cases h18 : op = 18
  · subst h18; exact ⟨_, _, fun w => specInt18 a b w, fun w => implInt18 a b w⟩
  by_cases h19 : op = 19
  · subst h19; exact ⟨_, _, fun w => specInt19 a b w, fun w => implInt19 a b w⟩
  exact int_other op a b (by simpa using h17) (by simpa using h18) (by simpa using h19)
end Go.Proofs.Ytgofchcbeiiieah
