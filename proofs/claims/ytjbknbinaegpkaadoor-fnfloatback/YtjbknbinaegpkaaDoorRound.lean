/- Rounding to the nearest float, told in steps on whole numbers, is the rounding of IEEE 754. -/
import Derived.Test.YtjbknbinaegpkaaDoorFlt
namespace Go.Proofs.YtjbknbinaegpkaaDoor
open Ieee

/-- The place of the last digit that is kept. -/
def unitOf (M : Nat) (e : Int) : Int := max (e + M.log2 - 52) (-1074)
/-- The digits that are kept, where d are dropped (more: something is left beyond the last digit). -/
def keptOf (M d : Nat) (more : Bool) : Nat :=
  if M / 2 ^ (d - 1) % 2 = 1 ∧ (more = true ∨ M % 2 ^ (d - 1) ≠ 0 ∨ M / 2 ^ d % 2 = 1) then M / 2 ^ d + 1 else M / 2 ^ d
def qOf (M : Nat) (e : Int) (more : Bool) : Nat :=
  if unitOf M e ≤ e then M * 2 ^ (e - unitOf M e).toNat else keptOf M (unitOf M e - e).toNat more
/-- The rung of digits q at place u. -/
def rungOf (q : Nat) (u : Int) : Nat :=
  if q = 9007199254740992 then (if u + 1076 ≥ 2047 then 9218868437227405312 else (u + 1076).toNat * 4503599627370496)
  else if q < 4503599627370496 then q
  else if u + 1075 ≥ 2047 then 9218868437227405312 else (u + 1075).toNat * 4503599627370496 + q - 4503599627370496

theorem half_split (M d : Nat) (hd : 0 < d) : M % 2 ^ d = M / 2 ^ (d - 1) % 2 * 2 ^ (d - 1) + M % 2 ^ (d - 1) := by
  obtain ⟨k, rfl⟩ : ∃ k, d = k + 1 := ⟨d - 1, by omega⟩
  simp only [Nat.add_sub_cancel]
  have h : M % 2 ^ (k + 1) = 2 ^ k * (M / 2 ^ k % 2) + M % 2 ^ k := by
    rw [Nat.pow_succ, Nat.mod_mul, Nat.add_comm]
  rw [h, Nat.mul_comm]

theorem cut_even (neg : Bool) (M d : Nat) (hd : 0 < d) : Toward.even.cut neg M d = keptOf M d false := by
  have hhi : M < 2 ^ (M.log2 + 1) := Nat.lt_log2_self
  unfold Toward.cut keptOf
  dsimp only
  by_cases hs : d ≤ M.log2 + 2
  · rw [Nat.min_eq_left hs, Nat.one_shiftLeft]
    have hP : 0 < 2 ^ (d - 1) := Nat.two_pow_pos _
    have hdbl : 2 ^ d = 2 * 2 ^ (d - 1) := by
      have hd1 : 2 ^ d = 2 ^ (d - 1 + 1) := congrArg (2 ^ ·) (by omega)
      rw [hd1, Nat.pow_succ, Nat.mul_comm]
    have hsp := half_split M d hd
    have hR : M % 2 ^ (d - 1) < 2 ^ (d - 1) := Nat.mod_lt _ hP
    have hH : M / 2 ^ (d - 1) % 2 < 2 := Nat.mod_lt _ (by decide)
    generalize hq : M / 2 ^ d = q
    generalize M / 2 ^ (d - 1) % 2 = H at *
    generalize M % 2 ^ (d - 1) = R at *
    generalize M % 2 ^ d = S at *
    generalize 2 ^ (d - 1) = P at *
    generalize 2 ^ d = G at *
    subst hdbl
    have hH' : H = 0 ∨ H = 1 := by omega
    rcases hH' with rfl | rfl
    · have h1 : ¬ (2 * P < 2 * S) := by omega
      have h2 : ¬ (2 * P = 2 * S) := by omega
      simp [h1, h2]
    · simp only [Nat.one_mul] at hsp
      by_cases hz : R = 0
      · have h2 : 2 * P = 2 * S := by omega
        by_cases ho : q % 2 = 1
        · simp [h2, ho]
        · have ho' : q % 2 = 0 := by omega
          simp [h2, ho', hz]
      · have h1 : 2 * P < 2 * S := by omega
        simp [h1, hz]
  · rw [Nat.min_eq_right (by omega), Nat.one_shiftLeft]
    have hG : 2 * M < 2 ^ (M.log2 + 2) := by rw [Nat.pow_succ]; omega
    have hz : M < 2 ^ (d - 1) := Nat.lt_of_lt_of_le hhi (Nat.pow_le_pow_right (by decide) (by omega))
    have hz' : M < 2 ^ d := Nat.lt_of_lt_of_le hhi (Nat.pow_le_pow_right (by decide) (by omega))
    rw [Nat.div_eq_of_lt hz, Nat.div_eq_of_lt hz']
    have h3 : M < 2 ^ (M.log2 + 2) := by omega
    rw [Nat.div_eq_of_lt h3, Nat.mod_eq_of_lt h3]
    have h1 : ¬ (2 ^ (M.log2 + 2) < 2 * M) := by omega
    simp [h1]

theorem kept_le (M d : Nat) (more : Bool) : keptOf M d more ≤ M / 2 ^ d + 1 := by unfold keptOf; split <;> omega
theorem le_kept (M d : Nat) (more : Bool) : M / 2 ^ d ≤ keptOf M d more := by unfold keptOf; split <;> omega

theorem q_bounds (M : Nat) (e : Int) (more : Bool) (h0 : M ≠ 0) : qOf M e more ≤ 9007199254740992 ∧ (-1074 < unitOf M e → 4503599627370496 ≤ qOf M e more) := by
  have hlo : 2 ^ M.log2 ≤ M := Nat.log2_self_le h0
  have hhi : M < 2 ^ (M.log2 + 1) := Nat.lt_log2_self
  have p52 : (2 : Nat) ^ 52 = 4503599627370496 := by decide
  have p53 : (2 : Nat) ^ 53 = 9007199254740992 := by decide
  have hu : e + M.log2 - 52 ≤ unitOf M e := by unfold unitOf; omega
  have hu2 : -1074 < unitOf M e → unitOf M e = e + M.log2 - 52 := by unfold unitOf; omega
  unfold qOf
  generalize unitOf M e = u at *
  split
  · rename_i hle
    have hs : M.log2 + (e - u).toNat ≤ 52 := by omega
    refine ⟨?_, fun h => ?_⟩
    · have : M * 2 ^ (e - u).toNat < 2 ^ (M.log2 + 1) * 2 ^ (e - u).toNat := Nat.mul_lt_mul_of_pos_right hhi (Nat.two_pow_pos _)
      rw [← Nat.pow_add] at this
      have h2 : 2 ^ (M.log2 + 1 + (e - u).toNat) ≤ 2 ^ 53 := Nat.pow_le_pow_right (by decide) (by omega)
      omega
    · have he := hu2 h
      have : 2 ^ M.log2 * 2 ^ (e - u).toNat ≤ M * 2 ^ (e - u).toNat := Nat.mul_le_mul_right _ hlo
      rw [← Nat.pow_add, show M.log2 + (e - u).toNat = 52 by omega] at this
      omega
  · rename_i hle
    have hk1 := kept_le M (u - e).toNat more
    have hk2 := le_kept M (u - e).toNat more
    refine ⟨?_, fun h => ?_⟩
    · have : M / 2 ^ (u - e).toNat < 2 ^ 53 := by
        rw [Nat.div_lt_iff_lt_mul (Nat.two_pow_pos _), ← Nat.pow_add]
        exact Nat.lt_of_lt_of_le hhi (Nat.pow_le_pow_right (by decide) (by omega))
      omega
    · have he := hu2 h
      have : 2 ^ 52 ≤ M / 2 ^ (u - e).toNat := by
        rw [Nat.le_div_iff_mul_le (Nat.two_pow_pos _), ← Nat.pow_add]
        exact Nat.le_trans (Nat.pow_le_pow_right (by decide) (by omega)) hlo
      omega

theorem unit_ge (M : Nat) (e : Int) : -1074 ≤ unitOf M e := by unfold unitOf; omega

theorem rung_min (q : Nat) (u : Int) (h1 : q ≤ 9007199254740992) (h2 : -1074 < u → 4503599627370496 ≤ q) (h3 : -1074 ≤ u) :
    min ((u - -1074).toNat * 4503599627370496 + q) 9218868437227405312 = rungOf q u := by
  unfold rungOf
  split
  · split <;> omega
  · split
    · omega
    · split <;> omega

/-- THE ROUNDING: a number that is not 0, written as a float. -/
theorem nearest_round (neg : Bool) (M : Nat) (e : Int) (h0 : M ≠ 0) : double.nearest neg M e = double.word neg (rungOf (qOf M e false) (unitOf M e)) := by
  have hb := q_bounds M e false h0
  rw [← rung_min _ _ hb.1 hb.2 (unit_ge M e)]
  unfold Format.nearest
  rw [if_neg h0]
  have hf : ((double.fractionBits : Nat) : Int) = 52 := rfl
  simp only [least_d, binade_d, inf_d, hf]
  have hl : max (e + (M.log2 : Int) - 52) (-1074) = unitOf M e := rfl
  rw [hl]
  have hk : Toward.even.cut neg (M <<< (e - unitOf M e).toNat) (unitOf M e - e).toNat = qOf M e false := by
    unfold qOf
    split
    · rename_i h
      rw [show (unitOf M e - e).toNat = 0 by omega, cut_none, Nat.shiftLeft_eq]
    · rename_i h
      rw [show (e - unitOf M e).toNat = 0 by omega, Nat.shiftLeft_zero]
      exact cut_even neg M _ (by omega)
  rw [hk]
end Go.Proofs.YtjbknbinaegpkaaDoor
