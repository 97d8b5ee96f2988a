/- A float cut towards 0: what the parts of its word say of it. -/
import Derived.Test.YtgofchcbeiiieaiWholeOver
namespace Go.Proofs.Ytgofchcbeiiieai
open Go.ChangeShapes Go.WideShapes Go.ChangeAt Go.RowKit

theorem parts_in (a : Int) : (0 ≤ openK a ∧ openK a < 2048) ∧ (0 ≤ openF a ∧ openF a < 4503599627370496) := by
  unfold openK openF; omega

/-- The whole part of what a finite word stands for, without its sign. -/
def truncN (a : Int) : Nat := if 0 ≤ openE a then (openM a).toNat * 2 ^ (openE a).toNat else (openM a).toNat / 2 ^ (-(openE a)).toNat

theorem finite_parts (a : Int) (h : openC a = 0) : 0 ≤ openM a ∧ openM a < 9007199254740992 ∧ -1074 ≤ openE a ∧ openE a ≤ 971 ∧ (0 < openE a → 4503599627370496 ≤ openM a) ∧ openE a = max (openK a) 1 - 1075 ∧ openK a < 2047 := by
  have hp := parts_in a
  unfold openC at h
  unfold openM openE
  by_cases h1 : openK a = 2047
  · rw [if_pos h1] at h; split at h <;> omega
  · simp only [if_neg h1]
    by_cases h2 : openK a = 0
    · simp only [if_pos h2]; omega
    · simp only [if_neg h2]; omega

/-- Beyond every int64 just where the field of the exponent is at least 1086. -/
theorem trunc_big (a : Int) (h : openC a = 0) : 9223372036854775807 < truncN a ↔ 1086 ≤ openK a := by
  obtain ⟨h1, h2, h3, h4, h5, h6, h7⟩ := finite_parts a h
  unfold truncN
  by_cases he : 0 ≤ openE a
  · rw [if_pos he]
    obtain ⟨m, hm⟩ : ∃ m : Nat, openM a = m := ⟨(openM a).toNat, by omega⟩
    rw [hm] at h1 h2 h5 ⊢
    simp only [Int.toNat_natCast]
    by_cases hk : 1086 ≤ openK a
    · have hx : 2 ^ 11 ≤ 2 ^ (openE a).toNat := Nat.pow_le_pow_right (by decide) (by omega)
      have := Nat.mul_le_mul (show 4503599627370496 ≤ m by omega) hx
      simp at this
      exact ⟨fun _ => hk, fun _ => by omega⟩
    · have hx : 2 ^ (openE a).toNat ≤ 2 ^ 10 := Nat.pow_le_pow_right (by decide) (by omega)
      have := Nat.mul_le_mul (show m ≤ 9007199254740991 by omega) hx
      simp at this
      exact ⟨fun hh => by omega, fun hh => absurd hh hk⟩
  · rw [if_neg he]
    have := Nat.div_le_self (openM a).toNat (2 ^ (-(openE a)).toNat)
    exact ⟨fun hh => by omega, fun hh => by omega⟩

theorem rung_big (a : Int) : 4890909195324358656 ≤ rung a ↔ 1086 ≤ openK a := by
  have := rung_parts a
  have hp := parts_in a
  omega

/-- spec.l1Whole, told plainly. -/
def wholeVal (a low high : Int) : Int :=
  if openC a = 2 then 0 else if openC a = 1 ∨ 9223372036854775807 < truncN a then (if a < 0 then low else high) else pickW (decide (a < 0)) (truncN a) low high

theorem whole_calls (a low high : Int) (w : World) :
    Calls Try.prog 12 #[.int .i64 a, .int .i64 low, .int .i64 high] w fun e' w' => e' = .returned (.int .i64 (wholeVal a low high)) ∧ Grown w w' := by
  unfold wholeVal
  by_cases h2 : openC a = 2
  · rw [if_pos h2]; exact whole_nan a low high h2 w
  rw [if_neg h2]
  by_cases h1 : openC a = 1
  · rw [if_pos (.inl h1)]
    have hk : openK a = 2047 := by
      unfold openC at h1; split at h1
      · assumption
      · omega
    have hm : openM a = 0 := by unfold openM; rw [if_pos hk]
    have he : openE a = 0 := by unfold openE; rw [if_pos hk]
    by_cases hs : a < 0
    · rw [if_pos hs]; exact whole_inf_n a low high hs hm he h1 w
    · rw [if_neg hs]; exact whole_inf_p a low high hs hm he h1 w
  have h0 : openC a = 0 := by
    unfold openC at h1 h2 ⊢; split at h1
    · split at h1 <;> simp_all
    · simp_all
  obtain ⟨f1, f2, f3, f4, f5, -, -⟩ := finite_parts a h0
  obtain ⟨m, hm⟩ : ∃ m : Nat, openM a = m := ⟨(openM a).toNat, by omega⟩
  by_cases he : 0 < openE a
  · obtain ⟨k, hk⟩ : ∃ k : Nat, openE a = k := ⟨(openE a).toNat, by omega⟩
    have ht : truncN a = m * 2 ^ k := by unfold truncN; rw [if_pos (by omega), hm, hk]; simp
    rw [ht]
    by_cases hb : m * 2 ^ k ≤ 9223372036854775807
    · rw [if_neg (by rintro (h | h); exact h1 h; omega)]
      by_cases hs : a < 0
      · simp only [hs, decide_true]; exact whole_up_n a low high m k hs hm hk h0 (by omega) (by omega) (by omega) hb w
      · simp only [hs, decide_false]; exact whole_up_p a low high m k hs hm hk h0 (by omega) (by omega) (by omega) hb w
    · rw [if_pos (.inr (by omega))]
      by_cases hs : a < 0
      · rw [if_pos hs]; exact whole_over_n a low high m k hs hm hk h0 (by omega) (by omega) (by omega) (by omega) hb w
      · rw [if_neg hs]; exact whole_over_p a low high m k hs hm hk h0 (by omega) (by omega) (by omega) (by omega) hb w
  · obtain ⟨k, hk⟩ : ∃ k : Nat, openE a = -(k : Int) := ⟨(-(openE a)).toNat, by omega⟩
    have ht : truncN a = m / 2 ^ k := by
      unfold truncN
      by_cases h00 : 0 ≤ openE a
      · obtain rfl : k = 0 := by omega
        rw [if_pos h00, hm, show (openE a).toNat = 0 by omega]; simp
      · rw [if_neg h00, hm, hk]; simp
    rw [ht]
    have hle := Nat.div_le_self m (2 ^ k)
    rw [if_neg (by rintro (h | h); exact h1 h; omega)]
    by_cases hs : a < 0
    · simp only [hs, decide_true]; exact whole_down_n a low high m k hs hm hk h0 (by omega) (by omega) w
    · simp only [hs, decide_false]; exact whole_down_p a low high m k hs hm hk h0 (by omega) (by omega) w

theorem cut_zero (neg : Bool) (m d : Nat) : Ieee.Toward.zero.cut neg m d = m / 2 ^ d := by
  unfold Ieee.Toward.cut
  dsimp only
  simp only [Bool.toNat_false, Nat.add_zero, Nat.one_shiftLeft]
  by_cases h : d ≤ m.log2 + 2
  · rw [Nat.min_eq_left h]
  · rw [Nat.min_eq_right (by omega)]
    have hhi : m < 2 ^ (m.log2 + 1) := Nat.lt_log2_self
    rw [Nat.div_eq_of_lt (Nat.lt_of_lt_of_le hhi (Nat.pow_le_pow_right (by decide) (by omega))), Nat.div_eq_of_lt (Nat.lt_of_lt_of_le hhi (Nat.pow_le_pow_right (by decide) (by omega)))]

/-- The model's own conversion cuts the same. -/
theorem toInt_word (a : Int) (h : openC a = 0) : (Ieee.double.read (Ieee.double.word (decide (a < 0)) (rung a))).toInt .zero = some (if a < 0 then -(truncN a : Int) else (truncN a : Int)) := by
  obtain ⟨f1, f2, f3, f4, f5, f6, f7⟩ := finite_parts a h
  have hr := rung_parts a
  have hp := parts_in a
  have hlt : rung a < 9218868437227405312 := by omega
  have hs : (sig (rung a) : Int) = openM a := by
    have hM : openM a = if openK a = 0 then openF a else openF a + 4503599627370496 := by unfold openM; rw [if_neg (by omega)]
    rw [hM]
    unfold sig
    by_cases h0 : openK a = 0
    · rw [if_pos h0, if_pos (by omega)]; omega
    · rw [if_neg h0, if_neg (by omega)]; omega
  have hx : (-1074 + (ex (rung a) : Nat) : Int) = openE a := by unfold ex; omega
  rw [read_finite _ _ hlt, hx]
  have hsn : sig (rung a) = (openM a).toNat := by omega
  rw [hsn]
  simp only [Ieee.Datum.toInt, Ieee.Datum.integral, cut_zero, Ieee.signed, Nat.shiftLeft_eq]
  have ht : (openM a).toNat * 2 ^ (openE a).toNat / 2 ^ (-(openE a)).toNat = truncN a := by
    unfold truncN
    by_cases he : 0 ≤ openE a
    · rw [if_pos he, show (-(openE a)).toNat = 0 by omega]; simp
    · rw [if_neg he, show (openE a).toNat = 0 by omega]; simp
  rw [ht]
  by_cases hs' : a < 0 <;> simp [hs']
end Go.Proofs.Ytgofchcbeiiieai
