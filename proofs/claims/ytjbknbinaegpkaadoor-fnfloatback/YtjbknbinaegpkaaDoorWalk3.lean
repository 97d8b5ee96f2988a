/- spec.l1Round on the bits of a number: the nearest float. -/
import Derived.Test.YtjbknbinaegpkaaDoorWalk2
namespace Go.Proofs.YtjbknbinaegpkaaDoor
open Go.ChangeShapes Go.WideShapes Go.ChangeAt Go.RowKit

/-- No bit at all: the rounding of nothing. -/
theorem roundZero (s more : Bool) (a : Option Addr) (cap : Nat) (e : Int) (w : World) :
    Calls Tryd.prog 28 #[.bool s, .slice a 0 cap, .int .i64 e, .bool more] w fun e' w' => e' = .returned (.int .i64 (signedOf s 0)) ∧ w' = w := by
  go_enter Tryd.func28, Tryd.ntmps28
  go_wp2
  go_loop [9] (fun n => n = .int .i64 0) (fun _ => 0)
  case atStart => rfl
  case round =>
    obtain rfl := hrel
    go_wp2_with (go_at_call 25; refine (signed_calls _ _ _).mono ?_; rintro e' w' ⟨rfl, he'⟩; subst he')
    go_ret
    exact ⟨rfl, rfl⟩

theorem kept_nought (M d : Nat) (more : Bool) (h : M / 2 ^ d % 2 = 0) : keptOf M (d + 1) more = M / 2 ^ (d + 1) := by
  unfold keptOf
  simp [h]

theorem round_calls (s more : Bool) (M g k cap : Nat) (e : Int) (w : World) (h0 : M ≠ 0) (hMk : M / 2 ^ k = 0) (hk : k ≤ 20000) (he1 : -20000 ≤ e) (he2 : e ≤ 20000) (hc : BitsAt w g k M) :
    Calls Tryd.prog 28 #[.bool s, .slice (some ⟨g, 0, none⟩) k cap, .int .i64 e, .bool more] w fun e' w' => e' = .returned (.int .i64 (signedOf s ((rungOf (qOf M e more) (unitOf M e) : Nat) : Int))) ∧ w' = w := by
  obtain ⟨L, hL⟩ : ∃ L, M.log2 = L := ⟨_, rfl⟩
  have hLk : L + 1 ≤ k := by
    rcases Nat.lt_or_ge L k with h | h
    · exact h
    · have h1 : 2 ^ k ≤ M := Nat.le_trans (Nat.pow_le_pow_right (by decide) (by omega)) (Nat.log2_self_le h0)
      have := Nat.div_pos h1 (Nat.two_pow_pos k)
      omega
  have hul : e + (L : Int) - 52 ≤ unitOf M e := by unfold unitOf; rw [hL]; omega
  by_cases hu : e + (L : Int) - 52 < -1074
  · have hU : unitOf M e = -1074 := by unfold unitOf; rw [hL]; omega
    rw [hU] at hul ⊢
    obtain ⟨D, hD⟩ : ∃ D, -1074 - e = D := ⟨_, rfl⟩
    have hLD : (L : Int) ≤ D + 52 := by omega
    unfold qOf
    rw [hU]
    by_cases hs : D ≤ 0
    · rw [if_pos (by omega), show (e - -1074).toNat = (-D).toNat by omega]
      exact roundMinusLow s more M g k cap L e D w h0 hL hLk hk he1 he2 hc hu hD hLD hs
    · rw [if_neg (by omega)]
      by_cases hf : (L : Int) + 1 < D
      · have hz : keptOf M (-1074 - e).toNat more = 0 := by
          unfold keptOf
          rw [no_bit hL _ (by omega), no_bit hL _ (by omega)]
          simp
        rw [hz]
        exact roundFarLow s more M g k cap L e D w h0 hL hLk hk he1 he2 hc hu hD hLD hf
      · obtain ⟨d, hd⟩ : ∃ d : Nat, D = (d : Int) + 1 := ⟨(D - 1).toNat, by omega⟩
        rw [show (-1074 - e).toNat = d + 1 by omega]
        by_cases hb : M / 2 ^ d % 2 = 1
        · exact roundOneLow s more M g k cap L e D w h0 hL hLk hk he1 he2 hc hu hD hLD d hd (by omega) hb
        · rw [kept_nought M d more (by omega)]
          exact roundNoughtLow s more M g k cap L e D w h0 hL hLk hk he1 he2 hc hu hD hLD d hd (by omega) (by omega)
  · obtain ⟨u, hu'⟩ : ∃ u, e + ((L : Int) + 1) - 53 = u := ⟨_, rfl⟩
    have hU : unitOf M e = u := by unfold unitOf; rw [hL]; omega
    rw [hU] at hul ⊢
    obtain ⟨D, hD⟩ : ∃ D, u - e = D := ⟨_, rfl⟩
    have hLD : (L : Int) ≤ D + 52 := by omega
    unfold qOf
    rw [hU]
    by_cases hs : D ≤ 0
    · rw [if_pos (by omega), show (e - u).toNat = (-D).toNat by omega]
      exact roundMinusTop s more M g k cap L e D w h0 hL hLk hk he1 he2 hc u (by omega) hu' hD hLD hs
    · rw [if_neg (by omega)]
      obtain ⟨d, hd⟩ : ∃ d : Nat, D = (d : Int) + 1 := ⟨(D - 1).toNat, by omega⟩
      rw [show (u - e).toNat = d + 1 by omega]
      by_cases hb : M / 2 ^ d % 2 = 1
      · exact roundOneTop s more M g k cap L e D w h0 hL hLk hk he1 he2 hc u (by omega) hu' hD hLD d hd (by omega) hb
      · rw [kept_nought M d more (by omega)]
        exact roundNoughtTop s more M g k cap L e D w h0 hL hLk hk he1 he2 hc u (by omega) hu' hD hLD d hd (by omega) (by omega)

theorem round_lt (M : Nat) (e : Int) (more : Bool) (h0 : M ≠ 0) : rungOf (qOf M e more) (unitOf M e) < 9223372036854775808 := by
  have hb := q_bounds M e more h0
  have := rung_min _ _ hb.1 hb.2 (unit_ge M e)
  omega

/-- The sign's bit laid above a rung. -/
theorem signed_word (s : Bool) (r : Nat) (h : r < 9223372036854775808) : signedOf s (r : Int) = wrap64 ((Ieee.double.word s r : Nat) : Int) := by
  unfold signedOf Ieee.Format.word
  rw [sign_d]
  cases s
  · simp only [Bool.false_eq_true, if_false]
    exact (wrap64_id _ (by omega) (by omega)).symm
  · simp only [if_true]
    show IntKind.i64.wrap (((BitVec.ofInt 64 (r : Int)) ||| (BitVec.ofInt 64 (-9223372036854775808))).toNat : Int) = _
    rw [wrap_i64, BitVec.toNat_or]
    have e1 : (BitVec.ofInt 64 (r : Int)).toNat = r := by
      rw [BitVec.ofInt_natCast, BitVec.toNat_ofNat]; omega
    have e2 : (BitVec.ofInt 64 (-9223372036854775808)).toNat = 9223372036854775808 := by decide
    rw [e1, e2, Nat.or_comm, nat_join 63 9223372036854775808 r (by decide) (Nat.lt_of_lt_of_eq h (by decide))]
end Go.Proofs.YtjbknbinaegpkaaDoor
