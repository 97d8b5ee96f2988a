/- The specification's sums, products and quotients of floats are IEEE 754's. -/
import Derived.Test.YtjkmoggajpkdeaaRnd
namespace Go.Proofs.Ytjkmoggajpkdeaa
set_option linter.unusedVariables false
open Ieee

theorem log2_double (Q b : Nat) (hb : b ≤ 1) (h0 : Q ≠ 0) : (2 * Q + b).log2 = Q.log2 + 1 := by
  have h1 := Nat.log2_self_le h0
  have h2 : Q < 2 ^ (Q.log2 + 1) := Nat.lt_log2_self
  rw [Nat.log2_eq_iff (by omega)]
  rw [Nat.pow_succ] at h2
  constructor
  · rw [Nat.pow_succ]; omega
  · rw [Nat.pow_succ, Nat.pow_succ]; omega

/-- One digit more, or what is left over said as a digit: the rounding is the same. -/
theorem round_step (Q b : Nat) (hb : b ≤ 1) (e : Int) (more more' : Bool) (hm : more = true ↔ (b = 1 ∨ more' = true)) (hL : 53 ≤ Q.log2) :
    rndOf Q e more = rndOf (2 * Q + b) (e - 1) more' := by
  have h0 : Q ≠ 0 := by intro h; rw [h] at hL; simp at hL
  have hl := log2_double Q b hb h0
  have hu : unitOf (2 * Q + b) (e - 1) = unitOf Q e := by unfold unitOf; rw [hl]; congr 1; omega
  have hgt : e < unitOf Q e := by unfold unitOf; omega
  unfold rndOf
  rw [if_neg h0, if_neg (by omega), hu]
  congr 1
  unfold qOf
  rw [hu, if_neg (by omega), if_neg (by omega)]
  obtain ⟨d, hd⟩ : ∃ d : Nat, (unitOf Q e - e).toNat = d + 1 := ⟨(unitOf Q e - e).toNat - 1, by omega⟩
  rw [hd, show (unitOf Q e - (e - 1)).toNat = d + 2 by omega]
  unfold keptOf
  simp only [Nat.add_sub_cancel, show d + 2 - 1 = d + 1 by omega]
  have e1 : (2 * Q + b) / 2 ^ (d + 1) = Q / 2 ^ d := by rw [Nat.pow_succ', ← Nat.div_div_eq_div_mul]; congr 1; omega
  have e2 : (2 * Q + b) / 2 ^ (d + 2) = Q / 2 ^ (d + 1) := by rw [show d + 2 = (d + 1) + 1 by omega, Nat.pow_succ', ← Nat.div_div_eq_div_mul]; congr 1; omega
  have e3 : (2 * Q + b) % 2 ^ (d + 1) = 2 * (Q % 2 ^ d) + b := by
    rw [Nat.pow_succ', Nat.mod_mul, show (2 * Q + b) % 2 = b by omega, show (2 * Q + b) / 2 = Q by omega]; omega
  rw [e1, e2, e3]
  have e4 : (more' = true ∨ 2 * (Q % 2 ^ d) + b ≠ 0 ∨ Q / 2 ^ (d + 1) % 2 = 1) ↔ (more = true ∨ Q % 2 ^ d ≠ 0 ∨ Q / 2 ^ (d + 1) % 2 = 1) := by
    rw [hm]
    constructor
    · rintro (h | h | h)
      · exact .inl (.inr h)
      · by_cases hb1 : b = 1
        · exact .inl (.inl hb1)
        · exact .inr (.inl (by omega))
      · exact .inr (.inr h)
    · rintro ((h | h) | h | h)
      · exact .inr (.inl (by omega))
      · exact .inl h
      · exact .inr (.inl (by omega))
      · exact .inr (.inr h)
  simp only [e4]

/-- The word of what is rounded. -/
theorem write_rnd (s : Bool) (M : Nat) (e : Int) : double.write (.number s M e) = double.word s (rndOf M e false) := by
  show double.nearest s M e = _
  by_cases h : M = 0
  · subst h; simp only [Format.nearest, rndOf, if_true]
  · rw [nearest_round s M e h, rndOf, if_neg h]
end Go.Proofs.Ytjkmoggajpkdeaa
