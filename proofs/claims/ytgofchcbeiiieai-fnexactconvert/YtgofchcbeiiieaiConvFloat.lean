/- impl.Convert and spec.Convert answer alike: whole numbers to floats, and all pairs together. -/
import Derived.Test.YtgofchcbeiiieaiConvPairs
namespace Go.Proofs.Ytgofchcbeiiieai
open Go.ChangeShapes Go.WideShapes Go.ChangeAt Go.RowKit

theorem round_of_int (s : Bool) (x : Int) (h0 : 0 < x) (hM : x ≤ 9223372036854775807) (w : World) :
    Calls Try.prog 15 #[.int .i64 x] w fun e w' => ∃ v, e = .returned v ∧ Kept w w' ∧ ∀ w'', w'' = w' → Calls Try.prog 14 #[.bool s, v, .int .i64 0, .bool false] w'' fun e2 w2 => e2 = .returned (.int .i64 (signedOf s ((rungOf (qOf x.natAbs 0 false) (unitOf x.natAbs 0) : Nat) : Int))) ∧ w2 = w'' := by
  obtain ⟨M, rfl⟩ : ∃ M : Nat, x = M := ⟨x.toNat, by omega⟩
  exact round_of_bits s M (by omega) (by omega) w

theorem min_float : signedOf true 4890909195324358656 = floatVal (-9223372036854775808) := by kernel_rfl
theorem zero_float : signedOf false 0 = floatVal 0 := by kernel_rfl

theorem sp13neg (n : Int) (hs : wrap32 n < 0) (w : World) :
    Calls Try.prog 7 #[.int .i64 1, .int .i64 3, .int .i64 n] w fun e w' => e = .returned (.tuple #[.int .i64 (floatVal (wrap32 n)), .bool true]) ∧ Kept w w' := by
  have hw := wrap32_in n
  have hb1 : -2147483648 ≤ wrap32 n := hw.1
  have hb2 : wrap32 n < 2147483648 := hw.2
  clear hw
  have hb := round_of_int true (-(wrap32 n)) (by omega) (by omega)
  have hf := float_agree (wrap32 n) (by omega)
  have hna : (-(wrap32 n)).natAbs = (wrap32 n).natAbs := by omega
  rw [hna] at hb
  have hd : decide (wrap32 n < 0) = true := by simpa using hs
  rw [hd] at hf
  rw [hf] at hb
  have hm : (wrap32 n == -9223372036854775808) = false := by simp; omega
  clear hf hna hd
  go_enter Try.func7, Try.ntmps7
  go_wp2_with (first | (go_at_call 11; refine (specWrap _ _).mono ?_; rintro e w' ⟨rfl, he⟩; subst he) | (go_at_call 15; refine (hb _).mono ?_; rintro e w' ⟨v, rfl, hk, hr⟩) | (go_at_call 14; refine (hr _ rfl).mono ?_; rintro e w' ⟨rfl, he⟩; subst he))
  all_goals go_ret2
  all_goals exact ⟨rfl, by assumption⟩
theorem sp13pos (n : Int) (hs : 0 < wrap32 n) (w : World) :
    Calls Try.prog 7 #[.int .i64 1, .int .i64 3, .int .i64 n] w fun e w' => e = .returned (.tuple #[.int .i64 (floatVal (wrap32 n)), .bool true]) ∧ Kept w w' := by
  have hw := wrap32_in n
  have hb1 : -2147483648 ≤ wrap32 n := hw.1
  have hb2 : wrap32 n < 2147483648 := hw.2
  clear hw
  have hb := round_of_int false (wrap32 n) (by omega) (by omega)
  have hf := float_agree (wrap32 n) (by omega)
  have hd : decide (wrap32 n < 0) = false := by simp; omega
  rw [hd] at hf
  rw [hf] at hb
  have hm : (wrap32 n == -9223372036854775808) = false := by simp; omega
  have hs2 : ¬ wrap32 n < 0 := by omega
  clear hf hd
  go_enter Try.func7, Try.ntmps7
  go_wp2_with (first | (go_at_call 11; refine (specWrap _ _).mono ?_; rintro e w' ⟨rfl, he⟩; subst he) | (go_at_call 15; refine (hb _).mono ?_; rintro e w' ⟨v, rfl, hk, hr⟩) | (go_at_call 14; refine (hr _ rfl).mono ?_; rintro e w' ⟨rfl, he⟩; subst he))
  all_goals go_ret2
  all_goals exact ⟨rfl, by assumption⟩
theorem sp13zero (n : Int) (hs : wrap32 n = 0) (w : World) :
    Calls Try.prog 7 #[.int .i64 1, .int .i64 3, .int .i64 n] w fun e w' => e = .returned (.tuple #[.int .i64 (floatVal 0), .bool true]) ∧ Kept w w' := by
  have hf := zero_float
  skip
  go_enter Try.func7, Try.ntmps7
  go_wp2_with (first | (go_at_call 11; refine (specWrap _ _).mono ?_; rintro e w' ⟨rfl, he⟩; subst he) | (go_at_call 15; refine (bits_zero _).mono ?_; rintro e w' ⟨rfl, rfl⟩) | (go_at_call 14; refine (roundZero _ _ _ _ _ _).mono ?_; rintro e w' ⟨rfl, he⟩))
  all_goals go_ret2
  all_goals exact ⟨by first | rfl | simp [hf], by subst he; exact kept_below ((Below.refl _ _).alloc (Nat.le_refl _) _)⟩

theorem sp23neg (n : Int) (hl : -9223372036854775807 ≤ n) (hs : n < 0) (w : World) :
    Calls Try.prog 7 #[.int .i64 2, .int .i64 3, .int .i64 n] w fun e w' => e = .returned (.tuple #[.int .i64 (floatVal n), .bool true]) ∧ Kept w w' := by
  have hb := round_of_int true (-n) (by omega) (by omega)
  have hf := float_agree n (by omega)
  have hna : (-n).natAbs = (n).natAbs := by omega
  rw [hna] at hb
  have hd : decide (n < 0) = true := by simpa using hs
  rw [hd] at hf
  rw [hf] at hb
  have hm : (n == -9223372036854775808) = false := by simp; omega
  clear hf hna hd
  go_enter Try.func7, Try.ntmps7
  go_wp2_with (first | (go_at_call 11; refine (specWrap _ _).mono ?_; rintro e w' ⟨rfl, he⟩; subst he) | (go_at_call 15; refine (hb _).mono ?_; rintro e w' ⟨v, rfl, hk, hr⟩) | (go_at_call 14; refine (hr _ rfl).mono ?_; rintro e w' ⟨rfl, he⟩; subst he))
  all_goals go_ret2
  all_goals exact ⟨rfl, by assumption⟩
theorem sp23pos (n : Int) (hl : n ≤ 9223372036854775807) (hs : 0 < n) (w : World) :
    Calls Try.prog 7 #[.int .i64 2, .int .i64 3, .int .i64 n] w fun e w' => e = .returned (.tuple #[.int .i64 (floatVal n), .bool true]) ∧ Kept w w' := by
  have hb := round_of_int false n (by omega) (by omega)
  have hf := float_agree n (by omega)
  have hd : decide (n < 0) = false := by simp; omega
  rw [hd] at hf
  rw [hf] at hb
  have hm : (n == -9223372036854775808) = false := by simp; omega
  have hs2 : ¬ n < 0 := by omega
  clear hf hd
  go_enter Try.func7, Try.ntmps7
  go_wp2_with (first | (go_at_call 11; refine (specWrap _ _).mono ?_; rintro e w' ⟨rfl, he⟩; subst he) | (go_at_call 15; refine (hb _).mono ?_; rintro e w' ⟨v, rfl, hk, hr⟩) | (go_at_call 14; refine (hr _ rfl).mono ?_; rintro e w' ⟨rfl, he⟩; subst he))
  all_goals go_ret2
  all_goals exact ⟨rfl, by assumption⟩
theorem sp23zero (n : Int) (hs : n = 0) (w : World) :
    Calls Try.prog 7 #[.int .i64 2, .int .i64 3, .int .i64 n] w fun e w' => e = .returned (.tuple #[.int .i64 (floatVal 0), .bool true]) ∧ Kept w w' := by
  have hf := zero_float
  subst hs
  go_enter Try.func7, Try.ntmps7
  go_wp2_with (first | (go_at_call 11; refine (specWrap _ _).mono ?_; rintro e w' ⟨rfl, he⟩; subst he) | (go_at_call 15; refine (bits_zero _).mono ?_; rintro e w' ⟨rfl, rfl⟩) | (go_at_call 14; refine (roundZero _ _ _ _ _ _).mono ?_; rintro e w' ⟨rfl, he⟩))
  all_goals go_ret2
  all_goals exact ⟨by first | rfl | simp [hf], by subst he; exact kept_below ((Below.refl _ _).alloc (Nat.le_refl _) _)⟩

theorem sp23min (w : World) :
    Calls Try.prog 7 #[.int .i64 2, .int .i64 3, .int .i64 (-9223372036854775808)] w fun e w' => e = .returned (.tuple #[.int .i64 (floatVal (-9223372036854775808)), .bool true]) ∧ Kept w w' := by
  have hf := min_float
  go_enter Try.func7, Try.ntmps7
  go_wp2_with (first | (go_at_call 13; refine (signed_calls _ _ _).mono ?_; rintro e' w' ⟨rfl, he'⟩; subst he'))
  all_goals go_ret2
  all_goals exact ⟨by first | rfl | simp [hf], Kept.refl _⟩
end Go.Proofs.Ytgofchcbeiiieai
