/- The nearest float to m times 2 to the e does not hang on how the two are chosen; a float that is read and written is itself. -/
import Derived.Test.YtjbknbinaegpkaaDoorRound
import Derived.Test.YtjbknbinaegpkaaDoorOrder
namespace Go.Proofs.YtjbknbinaegpkaaDoor
set_option linter.unusedVariables false
open Ieee

/-- The rung that a number times 2 to the e is rounded to. -/
def rndOf (M : Nat) (e : Int) : Nat := if M = 0 then 0 else rungOf (qOf M e false) (unitOf M e)

theorem log2_twice (M : Nat) (h0 : M ≠ 0) : (M * 2).log2 = M.log2 + 1 := by
  have hlo : 2 ^ M.log2 ≤ M := Nat.log2_self_le h0
  have hhi : M < 2 ^ (M.log2 + 1) := Nat.lt_log2_self
  have h1 : (M * 2).log2 < M.log2 + 2 := (Nat.log2_lt (by omega)).2 (by rw [Nat.pow_succ]; omega)
  have h2 : ¬ (M * 2).log2 < M.log2 + 1 := by
    rw [Nat.log2_lt (by omega), Nat.pow_succ]; omega
  omega

theorem unit_twice (M : Nat) (e : Int) (h0 : M ≠ 0) : unitOf (M * 2) (e - 1) = unitOf M e := by
  unfold unitOf
  rw [log2_twice M h0]
  omega

theorem kept_twice (M d : Nat) (hd : 0 < d) : keptOf (M * 2) (d + 1) false = keptOf M d false := by
  obtain ⟨k, rfl⟩ : ∃ k, d = k + 1 := ⟨d - 1, by omega⟩
  have e1 : M * 2 / 2 ^ (k + 1) = M / 2 ^ k := by
    rw [Nat.pow_succ, Nat.mul_div_mul_right _ _ (by decide)]
  have e2 : M * 2 / 2 ^ (k + 1 + 1) = M / 2 ^ (k + 1) := by
    rw [Nat.pow_succ 2 (k + 1), Nat.mul_div_mul_right _ _ (by decide)]
  have e3 : M * 2 % 2 ^ (k + 1) = M % 2 ^ k * 2 := by
    rw [Nat.pow_succ, Nat.mul_mod_mul_right]
  unfold keptOf
  simp only [Nat.add_sub_cancel, e1, e2, e3]
  have e4 : (M % 2 ^ k * 2 ≠ 0) ↔ (M % 2 ^ k ≠ 0) := by omega
  simp only [e4]

theorem q_twice (M : Nat) (e : Int) (h0 : M ≠ 0) : qOf (M * 2) (e - 1) false = qOf M e false := by
  unfold qOf
  rw [unit_twice M e h0]
  generalize unitOf M e = u
  by_cases h1 : u ≤ e - 1
  · rw [if_pos h1, if_pos (by omega)]
    have : (e - u).toNat = (e - 1 - u).toNat + 1 := by omega
    rw [this, Nat.pow_succ, Nat.mul_assoc, Nat.mul_comm 2]
  · rw [if_neg h1]
    by_cases h2 : u ≤ e
    · rw [if_pos h2]
      have hu : u = e := by omega
      subst hu
      have a : (u - (u - 1)).toNat = 1 := by omega
      have b : (u - u).toNat = 0 := by omega
      rw [a, b]
      unfold keptOf
      have c : M * 2 / 2 ^ (1 - 1) % 2 = 0 := by simp
      rw [if_neg (by rw [c]; simp)]
      simp
    · rw [if_neg h2]
      have a : (u - (e - 1)).toNat = (u - e).toNat + 1 := by omega
      rw [a]
      exact kept_twice M _ (by omega)

theorem rnd_twice (M : Nat) (e : Int) : rndOf (M * 2) (e - 1) = rndOf M e := by
  unfold rndOf
  by_cases h0 : M = 0
  · subst h0; simp
  · rw [if_neg h0, if_neg (by omega), q_twice M e h0, unit_twice M e h0]

/-- THE SCALE: what is moved up by j places, and told j places lower, is the same number. -/
theorem rnd_scale : ∀ (j M : Nat) (e : Int), rndOf (M * 2 ^ j) (e - j) = rndOf M e := by
  intro j
  induction j with
  | zero => intro M e; simp
  | succ j ih =>
    intro M e
    have h := rnd_twice (M * 2 ^ j) (e - j)
    rw [ih] at h
    rw [← h, Nat.pow_succ, Nat.mul_assoc]
    congr 1
    omega

/-- What is read of a finite float, written, is that float. -/
theorem rnd_self (r : Nat) (h : r < 9218868437227405312) : rndOf (sig r) (-1074 + (ex r : Nat)) = r := by
  unfold sig ex
  by_cases hs : r < 4503599627370496
  · rw [if_pos hs]
    have hx : r / 4503599627370496 - 1 = 0 := by omega
    rw [hx]
    unfold rndOf
    by_cases h0 : r = 0
    · rw [if_pos h0, h0]
    · rw [if_neg h0]
      have hl : r.log2 < 52 := (Nat.log2_lt h0).2 (Nat.lt_of_lt_of_eq hs (by decide))
      have hu : unitOf r (-1074 + ((0 : Nat) : Int)) = -1074 := by unfold unitOf; omega
      rw [hu]
      unfold qOf
      rw [hu, if_pos (by omega)]
      have : (-1074 + ((0 : Nat) : Int) - -1074).toNat = 0 := by omega
      rw [this]
      unfold rungOf
      rw [if_neg (by omega), if_pos (by omega)]
      simp
  · rw [if_neg hs]
    obtain ⟨k, hk⟩ : ∃ k, k = r / 4503599627370496 := ⟨_, rfl⟩
    obtain ⟨f, hf⟩ : ∃ f, f = r % 4503599627370496 := ⟨_, rfl⟩
    have hr : r = k * 4503599627370496 + f := by omega
    have hfl : f < 4503599627370496 := by omega
    have hk1 : 1 ≤ k := by omega
    have hk2 : k ≤ 2046 := by omega
    rw [← hk, ← hf]
    have hM0 : 4503599627370496 + f ≠ 0 := by omega
    have hlo : ¬ (4503599627370496 + f).log2 < 52 := by
      rw [Nat.log2_lt hM0]
      have : (2 : Nat) ^ 52 = 4503599627370496 := by decide
      omega
    have hhi : (4503599627370496 + f).log2 < 53 := (Nat.log2_lt hM0).2 (by
      have : (2 : Nat) ^ 53 = 9007199254740992 := by decide
      omega)
    have hu : unitOf (4503599627370496 + f) (-1074 + ((k - 1 : Nat) : Int)) = -1074 + ((k - 1 : Nat) : Int) := by unfold unitOf; omega
    unfold rndOf
    rw [if_neg hM0, hu]
    unfold qOf
    rw [hu, if_pos (by omega)]
    have : (-1074 + ((k - 1 : Nat) : Int) - (-1074 + ((k - 1 : Nat) : Int))).toNat = 0 := by omega
    rw [this]
    unfold rungOf
    simp only [Nat.pow_zero, Nat.mul_one]
    rw [if_neg (by omega), if_neg (by omega), if_neg (by omega)]
    omega

theorem rnd_le (M : Nat) (e : Int) : rndOf M e ≤ 9218868437227405312 := by
  unfold rndOf
  split
  · omega
  · rename_i h0
    obtain ⟨b1, b2⟩ := q_bounds M e false h0
    unfold rungOf
    split
    · split <;> omega
    · split
      · omega
      · split <;> omega
theorem write_rnd (s : Bool) (M : Nat) (e : Int) : double.write (.number s M e) = double.word s (rndOf M e) := by
  show double.nearest s M e = _
  unfold rndOf
  split
  · rename_i h; subst h; unfold Format.nearest; rfl
  · rename_i h; exact nearest_round s M e h
/-- Too small: nothing is left. -/
theorem rnd_low (M : Nat) (e : Int) (h0 : M ≠ 0) (h : e + M.log2 < -1075) : rndOf M e = 0 := by
  have hhi : M < 2 ^ (M.log2 + 1) := Nat.lt_log2_self
  have hu : unitOf M e = -1074 := by unfold unitOf; omega
  unfold rndOf
  rw [if_neg h0, hu]
  unfold qOf
  rw [hu, if_neg (by omega)]
  have z : ∀ d, M.log2 + 1 ≤ d → M / 2 ^ d = 0 := fun d hd => Nat.div_eq_of_lt (Nat.lt_of_lt_of_le hhi (Nat.pow_le_pow_right (by decide) hd))
  have hk : keptOf M (-1074 - e).toNat false = 0 := by
    unfold keptOf
    rw [z _ (by omega), z _ (by omega)]
    simp
  rw [hk]
  unfold rungOf
  simp
/-- Too great: infinity. -/
theorem rnd_high (M : Nat) (e : Int) (h0 : M ≠ 0) (h : 1023 < e + M.log2) : rndOf M e = 9218868437227405312 := by
  have hu : unitOf M e = e + M.log2 - 52 := by unfold unitOf; omega
  obtain ⟨b1, b2⟩ := q_bounds M e false h0
  have b3 := b2 (by omega)
  unfold rndOf
  rw [if_neg h0, hu]
  unfold rungOf
  split
  · rw [if_pos (by omega)]
  · rw [if_neg (by omega), if_pos (by omega)]
end Go.Proofs.YtjbknbinaegpkaaDoor
