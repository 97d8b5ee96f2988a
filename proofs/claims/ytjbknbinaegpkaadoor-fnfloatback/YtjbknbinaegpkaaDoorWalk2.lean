/- spec.l1Round: the digits of a number, rounded to the nearest float: its loops, told by plain functions. -/
import Derived.Test.YtjbknbinaegpkaaDoorWalk1
namespace Go.Proofs.YtjbknbinaegpkaaDoor
open Go.ChangeShapes Go.WideShapes Go.ChangeAt Go.RowKit

/-- A row of bits in memory: those of M, k of them. -/
def BitsAt (w : World) (g k M : Nat) : Prop := ∀ j, j < k → w.cell? ⟨g, j, none⟩ = some (.int .i64 ((M / 2 ^ j % 2 : Nat) : Int))

theorem top_bit {M L : Nat} (h0 : M ≠ 0) (hL : M.log2 = L) : M / 2 ^ L % 2 = 1 := by
  have h1 : 2 ^ L ≤ M := by rw [← hL]; exact Nat.log2_self_le h0
  have h2 : M < 2 ^ (L + 1) := by rw [← hL]; exact Nat.lt_log2_self
  have : M / 2 ^ L = 1 := by
    rw [Nat.pow_succ] at h2
    exact Nat.div_eq_of_lt_le (by omega) (by omega)
  rw [this]
theorem no_bit {M L : Nat} (hL : M.log2 = L) (j : Nat) (hj : L < j) : M / 2 ^ j = 0 :=
  Nat.div_eq_of_lt (Nat.lt_of_lt_of_le Nat.lt_log2_self (Nat.pow_le_pow_right (by decide) (by omega)))
theorem bit_step (M y : Nat) : M / 2 ^ y = M / 2 ^ (y + 1) * 2 + M / 2 ^ y % 2 := by
  rw [Nat.pow_succ, ← Nat.div_div_eq_div_mul]; omega
theorem few_bits {M L : Nat} (hL : M.log2 = L) (y : Nat) (h : L ≤ y + 52) : M / 2 ^ y < 9007199254740992 := by
  have : M / 2 ^ y < 2 ^ 53 := by
    rw [Nat.div_lt_iff_lt_mul (Nat.two_pow_pos _), ← Nat.pow_add]
    exact Nat.lt_of_lt_of_le Nat.lt_log2_self (Nat.pow_le_pow_right (by decide) (by omega))
  exact Nat.lt_of_lt_of_eq this (by decide)
theorem few_more {M L : Nat} (hL : M.log2 = L) (t : Nat) (h : L + t ≤ 52) : M * 2 ^ t < 9007199254740992 := by
  have h1 : M * 2 ^ t < 2 ^ (L + 1) * 2 ^ t := Nat.mul_lt_mul_of_pos_right (by rw [← hL]; exact Nat.lt_log2_self) (Nat.two_pow_pos _)
  rw [← Nat.pow_add] at h1
  have h2 : 2 ^ (L + 1 + t) ≤ 2 ^ 53 := Nat.pow_le_pow_right (by decide) (by omega)
  exact Nat.lt_of_lt_of_eq (Nat.lt_of_lt_of_le h1 h2) (by decide)
theorem kept_one (M d : Nat) (more : Bool) (h : M / 2 ^ d % 2 = 1) : keptOf M (d + 1) more = if more = true ∨ M % 2 ^ d ≠ 0 ∨ M / 2 ^ (d + 1) % 2 = 1 then M / 2 ^ (d + 1) + 1 else M / 2 ^ (d + 1) := by
  unfold keptOf
  simp only [Nat.add_sub_cancel, h, true_and]
theorem rest_step (more : Bool) (M r : Nat) : (more || decide (M % 2 ^ (r + 1) ≠ 0)) = ((more || decide (M % 2 ^ r ≠ 0)) || decide (M / 2 ^ r % 2 = 1)) := by
  have h := half_split M (r + 1) (by omega)
  simp only [Nat.add_sub_cancel] at h
  have hp : 0 < 2 ^ r := Nat.two_pow_pos _
  have hH : M / 2 ^ r % 2 = 0 ∨ M / 2 ^ r % 2 = 1 := by omega
  rw [h]
  cases more
  · simp only [Bool.false_or]
    rcases hH with e | e
    · rw [e]; simp
    · rw [e]; simp
  · simp
set_option maxRecDepth 100000 in
theorem roundMinusLow (s more : Bool) (M g k cap L : Nat) (e D : Int) (w : World) (h0 : M ≠ 0) (hL : M.log2 = L) (hLk : L + 1 ≤ k) (hk : k ≤ 20000) (he1 : -20000 ≤ e) (he2 : e ≤ 20000)
    (hc : BitsAt w g k M) (hu : e + L - 52 < -1074) (hD : -1074 - e = D) (hLD : (L : Int) ≤ D + 52) (hDs : D ≤ 0) :
    Calls Tryd.prog 28 #[.bool s, .slice (some ⟨g, 0, none⟩) k cap, .int .i64 e, .bool more] w fun e' w' => e' = .returned (.int .i64 (signedOf s ((rungOf (M * 2 ^ (-D).toNat) (-1074) : Nat) : Int))) ∧ w' = w := by
  have honeH : Hid (M / 2 ^ L % 2 = 1) := top_bit h0 hL
  have hzH : Hid (∀ j, L < j → M / 2 ^ j = 0) := no_bit hL
  have hfew : Hid (∀ y : Nat, L ≤ y + 52 → M / 2 ^ y < 9007199254740992) := few_bits hL
  have hmore : Hid (∀ t : Nat, L + t ≤ 52 → M * 2 ^ t < 9007199254740992) := few_more hL
  have hcH : Hid (BitsAt w g k M) := hc
  clear hc hL h0
  go_enter Tryd.func28, Tryd.ntmps28
  go_wp2
  go_loop [9] (fun n => ∃ t : Nat, L + 1 ≤ t ∧ t ≤ k ∧ n = .int .i64 t) (fun n => (intOf n).toNat)
  case atStart => exact ⟨k, hLk, Nat.le_refl _, rfl⟩
  case round =>
    obtain ⟨t, ht1, ht2, rfl⟩ := hrel
    obtain ⟨t, rfl⟩ : ∃ t', t = t' + 1 := ⟨t - 1, by omega⟩
    have hcell := hcH.out t (by omega)
    by_cases htL : t = L
    rotate_left
    · have h00 := hzH.out t (by omega)
      rw [h00] at hcell
      clear h00
      go_wp2
      go_round
      case rel => exact ⟨t, by omega, by omega, by go_num⟩
      case measure => simp [intOf]
    · subst htL
      rw [honeH.out] at hcell
      go_wp2
      clear hcell ht1 ht2
      go_loop [12, 13] (fun q i => ∃ x : Int, -1 ≤ x ∧ x ≤ t ∧ (x = t ∨ D - 1 ≤ x) ∧ i = .int .i64 x ∧ q = .int .i64 ((M / 2 ^ (x + 1).toNat : Nat) : Int)) (fun _ i => (intOf i + 1).toNat)
      case atStart => exact ⟨t, by omega, by omega, .inl rfl, rfl, by rw [show ((t : Int) + 1).toNat = t + 1 by omega, hzH.out (t + 1) (by omega)]; rfl⟩
      case round =>
        obtain ⟨x, hx1, hx2, hx3, rfl, rfl⟩ := hrel
        by_cases hx : 0 ≤ x ∧ D ≤ x
        · obtain ⟨hx0, hxD⟩ := hx
          obtain ⟨y, rfl⟩ : ∃ y : Nat, x = y := ⟨x.toNat, by omega⟩
          have hcell := hcH.out y (by omega)
          have hst := bit_step M y
          have hfb := hfew.out y (by omega)
          rw [show ((y : Int) + 1).toNat = y + 1 by omega]
          have hfin : Hid (M / 2 ^ ((y : Int) - 1 + 1).toNat = M / 2 ^ y) := congrArg (fun z => M / 2 ^ z) (by omega)
          generalize M / 2 ^ y % 2 = b at *
          generalize M / 2 ^ (y + 1) = A at *
          generalize M / 2 ^ y = B at *
          subst hst
          go_wp2
          go_round
          case rel => exact ⟨(y : Int) - 1, by omega, by omega, .inr (by omega), rfl, by rw [hfin.out]; go_num⟩
          case measure => simp [intOf]
        · obtain rfl : x = -1 := by omega
          rw [show ((-1 : Int) + 1).toNat = 0 by omega, Nat.pow_zero, Nat.div_one]
          go_wp2
          go_loop [11, 12] (fun d q => ∃ r : Nat, (r : Int) ≤ -D ∧ d = .int .i64 (D + r) ∧ q = .int .i64 ((M * 2 ^ r : Nat) : Int)) (fun d _ => (-(intOf d)).toNat)
          case atStart => exact ⟨0, by omega, by simp, by simp⟩
          case round =>
            obtain ⟨r, hr, rfl, rfl⟩ := hrel
            by_cases hlt : D + r < 0
            · have hb1 := hmore.out (r + 1) (by omega)
              have hst : M * 2 ^ (r + 1) = M * 2 ^ r * 2 := by rw [Nat.pow_succ, Nat.mul_assoc]
              have hfin : Hid (M * 2 ^ (r + 1) = M * 2 ^ r * 2) := hst
              rw [hst] at hb1
              clear hst
              generalize M * 2 ^ r = A at *
              go_wp2
              go_round
              case rel => exact ⟨r + 1, by omega, by go_num, by rw [hfin.out]; go_num⟩
              case measure => simp [intOf]; omega
            · have hb1 := hmore.out r (by omega)
              obtain rfl : r = (-D).toNat := by omega
              have hz : D + ((-D).toNat : Int) = 0 := by omega
              rw [hz]
              have hAq : Hid (∃ A, M * 2 ^ (-D).toNat = A) := ⟨_, rfl⟩
              obtain ⟨A, hA⟩ := hAq.out
              rw [hA] at hb1 ⊢
              have hAH : Hid (M * 2 ^ (-D).toNat = A) := hA
              clear hA hAq
              obtain ⟨z, hzA⟩ : ∃ z : Int, z = (A : Int) := ⟨_, rfl⟩
              rw [← hzA]
              have hz1 : 0 ≤ z := by omega
              have hz2 : z ≤ 9007199254740991 := by omega
              have hzH2 : Hid (z = (A : Int)) := hzA
              clear hzA hb1 hr hlt hfew hmore hzH honeH hcH
              go_wp2_with (go_at_call 25; refine (signed_calls _ _ _).mono ?_; rintro e' w' ⟨rfl, he'⟩; subst he')
              all_goals have hzA := hzH2.out
              all_goals have hA := hAH.out
              all_goals go_ret
              all_goals refine ⟨?_, rfl⟩
              all_goals refine congrArg (fun z => Ending.returned (Value.int .i64 (signedOf s z))) ?_
              all_goals rw [hA]
              all_goals unfold rungOf
              all_goals split <;> (try split) <;> (try split) <;> (try unfold wrap64) <;> omega
set_option maxRecDepth 100000 in
theorem roundMinusTop (s more : Bool) (M g k cap L : Nat) (e D : Int) (w : World) (h0 : M ≠ 0) (hL : M.log2 = L) (hLk : L + 1 ≤ k) (hk : k ≤ 20000) (he1 : -20000 ≤ e) (he2 : e ≤ 20000)
    (hc : BitsAt w g k M) (u : Int) (hu : -1074 ≤ e + L - 52) (hU : e + ((L : Int) + 1) - 53 = u) (hD : u - e = D) (hLD : (L : Int) ≤ D + 52) (hDs : D ≤ 0) :
    Calls Tryd.prog 28 #[.bool s, .slice (some ⟨g, 0, none⟩) k cap, .int .i64 e, .bool more] w fun e' w' => e' = .returned (.int .i64 (signedOf s ((rungOf (M * 2 ^ (-D).toNat) u : Nat) : Int))) ∧ w' = w := by
  have honeH : Hid (M / 2 ^ L % 2 = 1) := top_bit h0 hL
  have hzH : Hid (∀ j, L < j → M / 2 ^ j = 0) := no_bit hL
  have hfew : Hid (∀ y : Nat, L ≤ y + 52 → M / 2 ^ y < 9007199254740992) := few_bits hL
  have hmore : Hid (∀ t : Nat, L + t ≤ 52 → M * 2 ^ t < 9007199254740992) := few_more hL
  have hcH : Hid (BitsAt w g k M) := hc
  clear hc hL h0
  go_enter Tryd.func28, Tryd.ntmps28
  go_wp2
  go_loop [9] (fun n => ∃ t : Nat, L + 1 ≤ t ∧ t ≤ k ∧ n = .int .i64 t) (fun n => (intOf n).toNat)
  case atStart => exact ⟨k, hLk, Nat.le_refl _, rfl⟩
  case round =>
    obtain ⟨t, ht1, ht2, rfl⟩ := hrel
    obtain ⟨t, rfl⟩ : ∃ t', t = t' + 1 := ⟨t - 1, by omega⟩
    have hcell := hcH.out t (by omega)
    by_cases htL : t = L
    rotate_left
    · have h00 := hzH.out t (by omega)
      rw [h00] at hcell
      clear h00
      go_wp2
      go_round
      case rel => exact ⟨t, by omega, by omega, by go_num⟩
      case measure => simp [intOf]
    · subst htL
      rw [honeH.out] at hcell
      go_wp2
      clear hcell ht1 ht2
      go_loop [12, 13] (fun q i => ∃ x : Int, -1 ≤ x ∧ x ≤ t ∧ (x = t ∨ D - 1 ≤ x) ∧ i = .int .i64 x ∧ q = .int .i64 ((M / 2 ^ (x + 1).toNat : Nat) : Int)) (fun _ i => (intOf i + 1).toNat)
      case atStart => exact ⟨t, by omega, by omega, .inl rfl, rfl, by rw [show ((t : Int) + 1).toNat = t + 1 by omega, hzH.out (t + 1) (by omega)]; rfl⟩
      case round =>
        obtain ⟨x, hx1, hx2, hx3, rfl, rfl⟩ := hrel
        by_cases hx : 0 ≤ x ∧ D ≤ x
        · obtain ⟨hx0, hxD⟩ := hx
          obtain ⟨y, rfl⟩ : ∃ y : Nat, x = y := ⟨x.toNat, by omega⟩
          have hcell := hcH.out y (by omega)
          have hst := bit_step M y
          have hfb := hfew.out y (by omega)
          rw [show ((y : Int) + 1).toNat = y + 1 by omega]
          have hfin : Hid (M / 2 ^ ((y : Int) - 1 + 1).toNat = M / 2 ^ y) := congrArg (fun z => M / 2 ^ z) (by omega)
          generalize M / 2 ^ y % 2 = b at *
          generalize M / 2 ^ (y + 1) = A at *
          generalize M / 2 ^ y = B at *
          subst hst
          go_wp2
          go_round
          case rel => exact ⟨(y : Int) - 1, by omega, by omega, .inr (by omega), rfl, by rw [hfin.out]; go_num⟩
          case measure => simp [intOf]
        · obtain rfl : x = -1 := by omega
          rw [show ((-1 : Int) + 1).toNat = 0 by omega, Nat.pow_zero, Nat.div_one]
          go_wp2
          go_loop [11, 12] (fun d q => ∃ r : Nat, (r : Int) ≤ -D ∧ d = .int .i64 (D + r) ∧ q = .int .i64 ((M * 2 ^ r : Nat) : Int)) (fun d _ => (-(intOf d)).toNat)
          case atStart => exact ⟨0, by omega, by simp, by simp⟩
          case round =>
            obtain ⟨r, hr, rfl, rfl⟩ := hrel
            by_cases hlt : D + r < 0
            · have hb1 := hmore.out (r + 1) (by omega)
              have hst : M * 2 ^ (r + 1) = M * 2 ^ r * 2 := by rw [Nat.pow_succ, Nat.mul_assoc]
              have hfin : Hid (M * 2 ^ (r + 1) = M * 2 ^ r * 2) := hst
              rw [hst] at hb1
              clear hst
              generalize M * 2 ^ r = A at *
              go_wp2
              go_round
              case rel => exact ⟨r + 1, by omega, by go_num, by rw [hfin.out]; go_num⟩
              case measure => simp [intOf]; omega
            · have hb1 := hmore.out r (by omega)
              obtain rfl : r = (-D).toNat := by omega
              have hz : D + ((-D).toNat : Int) = 0 := by omega
              rw [hz]
              have hAq : Hid (∃ A, M * 2 ^ (-D).toNat = A) := ⟨_, rfl⟩
              obtain ⟨A, hA⟩ := hAq.out
              rw [hA] at hb1 ⊢
              have hAH : Hid (M * 2 ^ (-D).toNat = A) := hA
              clear hA hAq
              obtain ⟨z, hzA⟩ : ∃ z : Int, z = (A : Int) := ⟨_, rfl⟩
              rw [← hzA]
              have hz1 : 0 ≤ z := by omega
              have hz2 : z ≤ 9007199254740991 := by omega
              have hzH2 : Hid (z = (A : Int)) := hzA
              clear hzA hb1 hr hlt hfew hmore hzH honeH hcH
              go_wp2_with (go_at_call 25; refine (signed_calls _ _ _).mono ?_; rintro e' w' ⟨rfl, he'⟩; subst he')
              all_goals have hzA := hzH2.out
              all_goals have hA := hAH.out
              all_goals go_ret
              all_goals refine ⟨?_, rfl⟩
              all_goals refine congrArg (fun z => Ending.returned (Value.int .i64 (signedOf s z))) ?_
              all_goals rw [hA]
              all_goals unfold rungOf
              all_goals split <;> (try split) <;> (try split) <;> (try unfold wrap64) <;> omega
set_option maxRecDepth 100000 in
theorem roundFarLow (s more : Bool) (M g k cap L : Nat) (e D : Int) (w : World) (h0 : M ≠ 0) (hL : M.log2 = L) (hLk : L + 1 ≤ k) (hk : k ≤ 20000) (he1 : -20000 ≤ e) (he2 : e ≤ 20000)
    (hc : BitsAt w g k M) (hu : e + L - 52 < -1074) (hD : -1074 - e = D) (hLD : (L : Int) ≤ D + 52) (hDs : (L : Int) + 1 < D) :
    Calls Tryd.prog 28 #[.bool s, .slice (some ⟨g, 0, none⟩) k cap, .int .i64 e, .bool more] w fun e' w' => e' = .returned (.int .i64 (signedOf s ((rungOf 0 (-1074) : Nat) : Int))) ∧ w' = w := by
  have honeH : Hid (M / 2 ^ L % 2 = 1) := top_bit h0 hL
  have hzH : Hid (∀ j, L < j → M / 2 ^ j = 0) := no_bit hL
  have hfew : Hid (∀ y : Nat, L ≤ y + 52 → M / 2 ^ y < 9007199254740992) := few_bits hL
  have hmore : Hid (∀ t : Nat, L + t ≤ 52 → M * 2 ^ t < 9007199254740992) := few_more hL
  have hcH : Hid (BitsAt w g k M) := hc
  clear hc hL h0
  go_enter Tryd.func28, Tryd.ntmps28
  go_wp2
  go_loop [9] (fun n => ∃ t : Nat, L + 1 ≤ t ∧ t ≤ k ∧ n = .int .i64 t) (fun n => (intOf n).toNat)
  case atStart => exact ⟨k, hLk, Nat.le_refl _, rfl⟩
  case round =>
    obtain ⟨t, ht1, ht2, rfl⟩ := hrel
    obtain ⟨t, rfl⟩ : ∃ t', t = t' + 1 := ⟨t - 1, by omega⟩
    have hcell := hcH.out t (by omega)
    by_cases htL : t = L
    rotate_left
    · have h00 := hzH.out t (by omega)
      rw [h00] at hcell
      clear h00
      go_wp2
      go_round
      case rel => exact ⟨t, by omega, by omega, by go_num⟩
      case measure => simp [intOf]
    · subst htL
      rw [honeH.out] at hcell
      go_wp2
      clear hcell ht1 ht2
      go_loop [12, 13] (fun q i => ∃ x : Int, -1 ≤ x ∧ x ≤ t ∧ (x = t ∨ D - 1 ≤ x) ∧ i = .int .i64 x ∧ q = .int .i64 ((M / 2 ^ (x + 1).toNat : Nat) : Int)) (fun _ i => (intOf i + 1).toNat)
      case atStart => exact ⟨t, by omega, by omega, .inl rfl, rfl, by rw [show ((t : Int) + 1).toNat = t + 1 by omega, hzH.out (t + 1) (by omega)]; rfl⟩
      case round =>
        obtain ⟨x, hx1, hx2, hx3, rfl, rfl⟩ := hrel
        by_cases hx : 0 ≤ x ∧ D ≤ x
        · obtain ⟨hx0, hxD⟩ := hx
          obtain ⟨y, rfl⟩ : ∃ y : Nat, x = y := ⟨x.toNat, by omega⟩
          have hcell := hcH.out y (by omega)
          have hst := bit_step M y
          have hfb := hfew.out y (by omega)
          rw [show ((y : Int) + 1).toNat = y + 1 by omega]
          have hfin : Hid (M / 2 ^ ((y : Int) - 1 + 1).toNat = M / 2 ^ y) := congrArg (fun z => M / 2 ^ z) (by omega)
          generalize M / 2 ^ y % 2 = b at *
          generalize M / 2 ^ (y + 1) = A at *
          generalize M / 2 ^ y = B at *
          subst hst
          go_wp2
          go_round
          case rel => exact ⟨(y : Int) - 1, by omega, by omega, .inr (by omega), rfl, by rw [hfin.out]; go_num⟩
          case measure => simp [intOf]
        · obtain rfl : x = t := by omega
          rw [show ((t : Int) + 1).toNat = t + 1 by omega, hzH.out (t + 1) (by omega)]
          obtain ⟨z, hz⟩ : ∃ z : Int, z = 0 := ⟨_, rfl⟩
          have hzz : ((0 : Nat) : Int) = z := by omega
          rw [hzz]
          have hzH2 : Hid (z = 0) := hz
          clear hzz hz
          go_wp2
          go_loop [11, 12] (fun d q => d = .int .i64 D ∧ q = .int .i64 z) (fun _ _ => 0)
          case atStart => exact ⟨rfl, rfl⟩
          case round =>
            obtain ⟨rfl, rfl⟩ := hrel
            have hD0 : ¬ D < 0 := by omega
            have hD1 : 0 < D := by omega
            have hD2 : ¬ D ≤ (t : Int) + 1 := by omega
            obtain rfl := hzH2.out
            clear hfew hmore hzH honeH hcH
            go_wp2_with (go_at_call 25; refine (signed_calls _ _ _).mono ?_; rintro e' w' ⟨rfl, he'⟩; subst he')
            all_goals have hA : (0 : Nat) = 0 := rfl
            all_goals go_ret
            all_goals exact ⟨rfl, rfl⟩
set_option maxRecDepth 100000 in
theorem roundNoughtLow (s more : Bool) (M g k cap L : Nat) (e D : Int) (w : World) (h0 : M ≠ 0) (hL : M.log2 = L) (hLk : L + 1 ≤ k) (hk : k ≤ 20000) (he1 : -20000 ≤ e) (he2 : e ≤ 20000)
    (hc : BitsAt w g k M) (hu : e + L - 52 < -1074) (hD : -1074 - e = D) (hLD : (L : Int) ≤ D + 52) (d : Nat) (hd : D = (d : Int) + 1) (hdL : d ≤ L) (hbit : M / 2 ^ d % 2 = 0) :
    Calls Tryd.prog 28 #[.bool s, .slice (some ⟨g, 0, none⟩) k cap, .int .i64 e, .bool more] w fun e' w' => e' = .returned (.int .i64 (signedOf s ((rungOf (M / 2 ^ (d + 1)) (-1074) : Nat) : Int))) ∧ w' = w := by
  have honeH : Hid (M / 2 ^ L % 2 = 1) := top_bit h0 hL
  have hzH : Hid (∀ j, L < j → M / 2 ^ j = 0) := no_bit hL
  have hfew : Hid (∀ y : Nat, L ≤ y + 52 → M / 2 ^ y < 9007199254740992) := few_bits hL
  have hmore : Hid (∀ t : Nat, L + t ≤ 52 → M * 2 ^ t < 9007199254740992) := few_more hL
  have hcH : Hid (BitsAt w g k M) := hc
  clear hc hL h0
  have hdH : Hid (D = (d : Int) + 1) := hd
  clear hd
  have hbitH : Hid (M / 2 ^ d % 2 = 0) := hbit
  clear hbit
  go_enter Tryd.func28, Tryd.ntmps28
  go_wp2
  go_loop [9] (fun n => ∃ t : Nat, L + 1 ≤ t ∧ t ≤ k ∧ n = .int .i64 t) (fun n => (intOf n).toNat)
  case atStart => exact ⟨k, hLk, Nat.le_refl _, rfl⟩
  case round =>
    obtain ⟨t, ht1, ht2, rfl⟩ := hrel
    obtain ⟨t, rfl⟩ : ∃ t', t = t' + 1 := ⟨t - 1, by omega⟩
    have hcell := hcH.out t (by omega)
    by_cases htL : t = L
    rotate_left
    · have h00 := hzH.out t (by omega)
      rw [h00] at hcell
      clear h00
      go_wp2
      go_round
      case rel => exact ⟨t, by omega, by omega, by go_num⟩
      case measure => simp [intOf]
    · subst htL
      rw [honeH.out] at hcell
      go_wp2
      clear hcell ht1 ht2
      go_loop [12, 13] (fun q i => ∃ x : Int, -1 ≤ x ∧ x ≤ t ∧ (x = t ∨ D - 1 ≤ x) ∧ i = .int .i64 x ∧ q = .int .i64 ((M / 2 ^ (x + 1).toNat : Nat) : Int)) (fun _ i => (intOf i + 1).toNat)
      case atStart => exact ⟨t, by omega, by omega, .inl rfl, rfl, by rw [show ((t : Int) + 1).toNat = t + 1 by omega, hzH.out (t + 1) (by omega)]; rfl⟩
      case round =>
        obtain ⟨x, hx1, hx2, hx3, rfl, rfl⟩ := hrel
        by_cases hx : 0 ≤ x ∧ D ≤ x
        · obtain ⟨hx0, hxD⟩ := hx
          obtain ⟨y, rfl⟩ : ∃ y : Nat, x = y := ⟨x.toNat, by omega⟩
          have hcell := hcH.out y (by omega)
          have hst := bit_step M y
          have hfb := hfew.out y (by omega)
          rw [show ((y : Int) + 1).toNat = y + 1 by omega]
          have hfin : Hid (M / 2 ^ ((y : Int) - 1 + 1).toNat = M / 2 ^ y) := congrArg (fun z => M / 2 ^ z) (by omega)
          generalize M / 2 ^ y % 2 = b at *
          generalize M / 2 ^ (y + 1) = A at *
          generalize M / 2 ^ y = B at *
          subst hst
          go_wp2
          go_round
          case rel => exact ⟨(y : Int) - 1, by omega, by omega, .inr (by omega), rfl, by rw [hfin.out]; go_num⟩
          case measure => simp [intOf]
        · obtain rfl : x = (d : Int) := by have := hdH.out; omega
          have hAq : Hid (∃ A, M / 2 ^ (d + 1) = A) := ⟨_, rfl⟩
          obtain ⟨A, hA⟩ := hAq.out
          have hb1 := hfew.out (d + 1) (by have := hdH.out; omega)
          rw [show ((d : Int) + 1).toNat = d + 1 by omega]
          rw [hA] at hb1 ⊢
          have hAH : Hid (M / 2 ^ (d + 1) = A) := hA
          clear hA hAq
          obtain ⟨z, hzA⟩ : ∃ z : Int, z = (A : Int) := ⟨_, rfl⟩
          rw [← hzA]
          have hz1 : 0 ≤ z := by omega
          have hz2 : z ≤ 9007199254740991 := by omega
          have hzH2 : Hid (z = (A : Int)) := hzA
          clear hzA hb1
          go_wp2
          go_loop [11, 12] (fun d q => d = .int .i64 D ∧ q = .int .i64 z) (fun _ _ => 0)
          case atStart => exact ⟨rfl, rfl⟩
          case round =>
            obtain ⟨rfl, rfl⟩ := hrel
            have hd := hdH.out
            have hD0 : ¬ D < 0 := by omega
            have hD1 : 0 < D := by omega
            have hD2 : D ≤ (t : Int) + 1 := by omega
            have hcell := hcH.out d (by omega)
            rw [hbitH.out] at hcell
            clear hdH
            subst hd
            clear hfew hmore hzH honeH hcH
            go_wp2_with (go_at_call 25; refine (signed_calls _ _ _).mono ?_; rintro e' w' ⟨rfl, he'⟩; subst he')
            all_goals have hzA := hzH2.out
            all_goals have hA := hAH.out
            all_goals go_ret
            all_goals refine ⟨?_, rfl⟩
            all_goals refine congrArg (fun z => Ending.returned (Value.int .i64 (signedOf s z))) ?_
            all_goals rw [hA]
            all_goals unfold rungOf
            all_goals split <;> (try split) <;> (try split) <;> (try unfold wrap64) <;> omega
set_option maxRecDepth 100000 in
theorem roundNoughtTop (s more : Bool) (M g k cap L : Nat) (e D : Int) (w : World) (h0 : M ≠ 0) (hL : M.log2 = L) (hLk : L + 1 ≤ k) (hk : k ≤ 20000) (he1 : -20000 ≤ e) (he2 : e ≤ 20000)
    (hc : BitsAt w g k M) (u : Int) (hu : -1074 ≤ e + L - 52) (hU : e + ((L : Int) + 1) - 53 = u) (hD : u - e = D) (hLD : (L : Int) ≤ D + 52) (d : Nat) (hd : D = (d : Int) + 1) (hdL : d ≤ L) (hbit : M / 2 ^ d % 2 = 0) :
    Calls Tryd.prog 28 #[.bool s, .slice (some ⟨g, 0, none⟩) k cap, .int .i64 e, .bool more] w fun e' w' => e' = .returned (.int .i64 (signedOf s ((rungOf (M / 2 ^ (d + 1)) u : Nat) : Int))) ∧ w' = w := by
  have honeH : Hid (M / 2 ^ L % 2 = 1) := top_bit h0 hL
  have hzH : Hid (∀ j, L < j → M / 2 ^ j = 0) := no_bit hL
  have hfew : Hid (∀ y : Nat, L ≤ y + 52 → M / 2 ^ y < 9007199254740992) := few_bits hL
  have hmore : Hid (∀ t : Nat, L + t ≤ 52 → M * 2 ^ t < 9007199254740992) := few_more hL
  have hcH : Hid (BitsAt w g k M) := hc
  clear hc hL h0
  have hdH : Hid (D = (d : Int) + 1) := hd
  clear hd
  have hbitH : Hid (M / 2 ^ d % 2 = 0) := hbit
  clear hbit
  go_enter Tryd.func28, Tryd.ntmps28
  go_wp2
  go_loop [9] (fun n => ∃ t : Nat, L + 1 ≤ t ∧ t ≤ k ∧ n = .int .i64 t) (fun n => (intOf n).toNat)
  case atStart => exact ⟨k, hLk, Nat.le_refl _, rfl⟩
  case round =>
    obtain ⟨t, ht1, ht2, rfl⟩ := hrel
    obtain ⟨t, rfl⟩ : ∃ t', t = t' + 1 := ⟨t - 1, by omega⟩
    have hcell := hcH.out t (by omega)
    by_cases htL : t = L
    rotate_left
    · have h00 := hzH.out t (by omega)
      rw [h00] at hcell
      clear h00
      go_wp2
      go_round
      case rel => exact ⟨t, by omega, by omega, by go_num⟩
      case measure => simp [intOf]
    · subst htL
      rw [honeH.out] at hcell
      go_wp2
      clear hcell ht1 ht2
      go_loop [12, 13] (fun q i => ∃ x : Int, -1 ≤ x ∧ x ≤ t ∧ (x = t ∨ D - 1 ≤ x) ∧ i = .int .i64 x ∧ q = .int .i64 ((M / 2 ^ (x + 1).toNat : Nat) : Int)) (fun _ i => (intOf i + 1).toNat)
      case atStart => exact ⟨t, by omega, by omega, .inl rfl, rfl, by rw [show ((t : Int) + 1).toNat = t + 1 by omega, hzH.out (t + 1) (by omega)]; rfl⟩
      case round =>
        obtain ⟨x, hx1, hx2, hx3, rfl, rfl⟩ := hrel
        by_cases hx : 0 ≤ x ∧ D ≤ x
        · obtain ⟨hx0, hxD⟩ := hx
          obtain ⟨y, rfl⟩ : ∃ y : Nat, x = y := ⟨x.toNat, by omega⟩
          have hcell := hcH.out y (by omega)
          have hst := bit_step M y
          have hfb := hfew.out y (by omega)
          rw [show ((y : Int) + 1).toNat = y + 1 by omega]
          have hfin : Hid (M / 2 ^ ((y : Int) - 1 + 1).toNat = M / 2 ^ y) := congrArg (fun z => M / 2 ^ z) (by omega)
          generalize M / 2 ^ y % 2 = b at *
          generalize M / 2 ^ (y + 1) = A at *
          generalize M / 2 ^ y = B at *
          subst hst
          go_wp2
          go_round
          case rel => exact ⟨(y : Int) - 1, by omega, by omega, .inr (by omega), rfl, by rw [hfin.out]; go_num⟩
          case measure => simp [intOf]
        · obtain rfl : x = (d : Int) := by have := hdH.out; omega
          have hAq : Hid (∃ A, M / 2 ^ (d + 1) = A) := ⟨_, rfl⟩
          obtain ⟨A, hA⟩ := hAq.out
          have hb1 := hfew.out (d + 1) (by have := hdH.out; omega)
          rw [show ((d : Int) + 1).toNat = d + 1 by omega]
          rw [hA] at hb1 ⊢
          have hAH : Hid (M / 2 ^ (d + 1) = A) := hA
          clear hA hAq
          obtain ⟨z, hzA⟩ : ∃ z : Int, z = (A : Int) := ⟨_, rfl⟩
          rw [← hzA]
          have hz1 : 0 ≤ z := by omega
          have hz2 : z ≤ 9007199254740991 := by omega
          have hzH2 : Hid (z = (A : Int)) := hzA
          clear hzA hb1
          go_wp2
          go_loop [11, 12] (fun d q => d = .int .i64 D ∧ q = .int .i64 z) (fun _ _ => 0)
          case atStart => exact ⟨rfl, rfl⟩
          case round =>
            obtain ⟨rfl, rfl⟩ := hrel
            have hd := hdH.out
            have hD0 : ¬ D < 0 := by omega
            have hD1 : 0 < D := by omega
            have hD2 : D ≤ (t : Int) + 1 := by omega
            have hcell := hcH.out d (by omega)
            rw [hbitH.out] at hcell
            clear hdH
            subst hd
            clear hfew hmore hzH honeH hcH
            go_wp2_with (go_at_call 25; refine (signed_calls _ _ _).mono ?_; rintro e' w' ⟨rfl, he'⟩; subst he')
            all_goals have hzA := hzH2.out
            all_goals have hA := hAH.out
            all_goals go_ret
            all_goals refine ⟨?_, rfl⟩
            all_goals refine congrArg (fun z => Ending.returned (Value.int .i64 (signedOf s z))) ?_
            all_goals rw [hA]
            all_goals unfold rungOf
            all_goals split <;> (try split) <;> (try split) <;> (try unfold wrap64) <;> omega
set_option maxHeartbeats 1000000 in
set_option maxRecDepth 100000 in
theorem roundOneLow (s more : Bool) (M g k cap L : Nat) (e D : Int) (w : World) (h0 : M ≠ 0) (hL : M.log2 = L) (hLk : L + 1 ≤ k) (hk : k ≤ 20000) (he1 : -20000 ≤ e) (he2 : e ≤ 20000)
    (hc : BitsAt w g k M) (hu : e + L - 52 < -1074) (hD : -1074 - e = D) (hLD : (L : Int) ≤ D + 52) (d : Nat) (hd : D = (d : Int) + 1) (hdL : d ≤ L) (hbit : M / 2 ^ d % 2 = 1) :
    Calls Tryd.prog 28 #[.bool s, .slice (some ⟨g, 0, none⟩) k cap, .int .i64 e, .bool more] w fun e' w' => e' = .returned (.int .i64 (signedOf s ((rungOf (keptOf M (d + 1) more) (-1074) : Nat) : Int))) ∧ w' = w := by
  have honeH : Hid (M / 2 ^ L % 2 = 1) := top_bit h0 hL
  have hzH : Hid (∀ j, L < j → M / 2 ^ j = 0) := no_bit hL
  have hfew : Hid (∀ y : Nat, L ≤ y + 52 → M / 2 ^ y < 9007199254740992) := few_bits hL
  have hmore : Hid (∀ t : Nat, L + t ≤ 52 → M * 2 ^ t < 9007199254740992) := few_more hL
  have hcH : Hid (BitsAt w g k M) := hc
  clear hc hL h0
  have hdH : Hid (D = (d : Int) + 1) := hd
  clear hd
  have hbitH : Hid (M / 2 ^ d % 2 = 1) := hbit
  clear hbit
  go_enter Tryd.func28, Tryd.ntmps28
  go_wp2
  go_loop [9] (fun n => ∃ t : Nat, L + 1 ≤ t ∧ t ≤ k ∧ n = .int .i64 t) (fun n => (intOf n).toNat)
  case atStart => exact ⟨k, hLk, Nat.le_refl _, rfl⟩
  case round =>
    obtain ⟨t, ht1, ht2, rfl⟩ := hrel
    obtain ⟨t, rfl⟩ : ∃ t', t = t' + 1 := ⟨t - 1, by omega⟩
    have hcell := hcH.out t (by omega)
    by_cases htL : t = L
    rotate_left
    · have h00 := hzH.out t (by omega)
      rw [h00] at hcell
      clear h00
      go_wp2
      go_round
      case rel => exact ⟨t, by omega, by omega, by go_num⟩
      case measure => simp [intOf]
    · subst htL
      rw [honeH.out] at hcell
      go_wp2
      clear hcell ht1 ht2
      go_loop [12, 13] (fun q i => ∃ x : Int, -1 ≤ x ∧ x ≤ t ∧ (x = t ∨ D - 1 ≤ x) ∧ i = .int .i64 x ∧ q = .int .i64 ((M / 2 ^ (x + 1).toNat : Nat) : Int)) (fun _ i => (intOf i + 1).toNat)
      case atStart => exact ⟨t, by omega, by omega, .inl rfl, rfl, by rw [show ((t : Int) + 1).toNat = t + 1 by omega, hzH.out (t + 1) (by omega)]; rfl⟩
      case round =>
        obtain ⟨x, hx1, hx2, hx3, rfl, rfl⟩ := hrel
        by_cases hx : 0 ≤ x ∧ D ≤ x
        · obtain ⟨hx0, hxD⟩ := hx
          obtain ⟨y, rfl⟩ : ∃ y : Nat, x = y := ⟨x.toNat, by omega⟩
          have hcell := hcH.out y (by omega)
          have hst := bit_step M y
          have hfb := hfew.out y (by omega)
          rw [show ((y : Int) + 1).toNat = y + 1 by omega]
          have hfin : Hid (M / 2 ^ ((y : Int) - 1 + 1).toNat = M / 2 ^ y) := congrArg (fun z => M / 2 ^ z) (by omega)
          generalize M / 2 ^ y % 2 = b at *
          generalize M / 2 ^ (y + 1) = A at *
          generalize M / 2 ^ y = B at *
          subst hst
          go_wp2
          go_round
          case rel => exact ⟨(y : Int) - 1, by omega, by omega, .inr (by omega), rfl, by rw [hfin.out]; go_num⟩
          case measure => simp [intOf]
        · obtain rfl : x = (d : Int) := by have := hdH.out; omega
          have hAq : Hid (∃ A, M / 2 ^ (d + 1) = A) := ⟨_, rfl⟩
          obtain ⟨A, hA⟩ := hAq.out
          have hb1 := hfew.out (d + 1) (by have := hdH.out; omega)
          rw [show ((d : Int) + 1).toNat = d + 1 by omega]
          rw [hA] at hb1 ⊢
          have hAH : Hid (M / 2 ^ (d + 1) = A) := hA
          clear hA hAq
          obtain ⟨z, hzA⟩ : ∃ z : Int, z = (A : Int) := ⟨_, rfl⟩
          rw [← hzA]
          have hz1 : 0 ≤ z := by omega
          have hz2 : z ≤ 9007199254740991 := by omega
          have hzH2 : Hid (z = (A : Int)) := hzA
          clear hzA hb1
          go_wp2
          go_loop [11, 12] (fun d q => d = .int .i64 D ∧ q = .int .i64 z) (fun _ _ => 0)
          case atStart => exact ⟨rfl, rfl⟩
          case round =>
            obtain ⟨rfl, rfl⟩ := hrel
            have hd := hdH.out
            have hD0 : ¬ D < 0 := by omega
            have hD1 : 0 < D := by omega
            have hD2 : D ≤ (t : Int) + 1 := by omega
            have hcell := hcH.out d (by omega)
            rw [hbitH.out] at hcell
            clear hdH
            subst hd
            go_wp2
            clear hcell
            go_loop [14, 15] (fun b i => ∃ r : Nat, r ≤ d ∧ i = .int .i64 r ∧ b = .bool (more || decide (M % 2 ^ r ≠ 0))) (fun _ i => d - (intOf i).toNat)
            case atStart => exact ⟨0, by omega, rfl, by simp [Nat.mod_one]⟩
            case round =>
              obtain ⟨r, hr, rfl, rfl⟩ := hrel
              by_cases hlt : r < d
              · have hcell := hcH.out r (by omega)
                have hlt' : (r : Int) < (d : Int) := by omega
                have hsp := rest_step more M r
                by_cases hb : (more || decide (M % 2 ^ r ≠ 0)) = true
                · rw [hb] at hsp ⊢
                  simp only [Bool.true_or] at hsp
                  have hspH : Hid ((more || decide (M % 2 ^ (r + 1) ≠ 0)) = true) := hsp
                  clear hsp hb
                  go_wp2
                  go_round
                  case rel => exact ⟨r + 1, by omega, by go_num, by rw [hspH.out]⟩
                  case measure => simp [intOf]; omega
                · have hb' : (more || decide (M % 2 ^ r ≠ 0)) = false := by simpa using hb
                  rw [hb'] at hsp ⊢
                  simp only [Bool.false_or] at hsp
                  have hspH : Hid ((more || decide (M % 2 ^ (r + 1) ≠ 0)) = decide (M / 2 ^ r % 2 = 1)) := hsp
                  clear hsp hb hb'
                  generalize M / 2 ^ r % 2 = b at *
                  go_wp2
                  go_round
                  case rel => exact ⟨r + 1, by omega, by go_num, by rw [hspH.out]; congr 1; by_cases h1 : b = 1 <;> simp [h1] <;> omega⟩
                  case measure => simp [intOf]; omega
              · obtain rfl : r = d := by omega
                have hlt' : ¬ (r : Int) < (r : Int) := by omega
                clear hfew hmore hzH honeH hcH
                by_cases hb : (more || decide (M % 2 ^ r ≠ 0)) = true
                · rw [hb]
                  have hQ : Hid (more = true ∨ M % 2 ^ r ≠ 0 ∨ M / 2 ^ (r + 1) % 2 = 1) := by
                    simp only [Bool.or_eq_true, decide_eq_true_eq] at hb
                    rcases hb with hb | hb
                    · exact .inl hb
                    · exact .inr (.inl hb)
                  clear hb
                  go_wp2_with (go_at_call 25; refine (signed_calls _ _ _).mono ?_; rintro e' w' ⟨rfl, he'⟩; subst he')
                  all_goals have hzA := hzH2.out
                  all_goals have hA := hAH.out
                  all_goals go_ret
                  all_goals refine ⟨?_, rfl⟩
                  all_goals refine congrArg (fun z => Ending.returned (Value.int .i64 (signedOf s z))) ?_
                  all_goals try have hbe : z + 1 = 9007199254740992 := by simpa using ‹(z + 1 == 9007199254740992) = true›
                  all_goals try have hbn : z + 1 ≠ 9007199254740992 := by simpa using ‹(z + 1 == 9007199254740992) = false›
                  all_goals rw [kept_one M r more hbitH.out, if_pos hQ.out, hA]
                  all_goals unfold rungOf
                  all_goals split <;> (try split) <;> (try split) <;> (try unfold wrap64) <;> omega
                · have hb' : (more || decide (M % 2 ^ r ≠ 0)) = false := by simpa using hb
                  rw [hb']
                  have hQ : Hid ((more = true ∨ M % 2 ^ r ≠ 0 ∨ M / 2 ^ (r + 1) % 2 = 1) ↔ A % 2 = 1) := by
                    have e := hAH.out
                    simp only [Bool.or_eq_true, decide_eq_true_eq, not_or] at hb
                    show _ ↔ _
                    rw [e]
                    exact ⟨fun h => by rcases h with h | h | h; exact absurd h hb.1; exact absurd h hb.2; exact h, fun h => .inr (.inr h)⟩
                  clear hb hb'
                  go_wp2_with (go_at_call 25; refine (signed_calls _ _ _).mono ?_; rintro e' w' ⟨rfl, he'⟩; subst he')
                  all_goals have hzA := hzH2.out
                  all_goals have hA := hAH.out
                  all_goals go_ret
                  all_goals refine ⟨?_, rfl⟩
                  all_goals refine congrArg (fun z => Ending.returned (Value.int .i64 (signedOf s z))) ?_
                  all_goals try have hbe : z + 1 = 9007199254740992 := by simpa using ‹(z + 1 == 9007199254740992) = true›
                  all_goals try have hbn : z + 1 ≠ 9007199254740992 := by simpa using ‹(z + 1 == 9007199254740992) = false›
                  all_goals try have hoe : z % 2 = 1 := by simpa using ‹(z % 2 == 1) = true›
                  all_goals try have hon : z % 2 ≠ 1 := by simpa using ‹(z % 2 == 1) = false›
                  all_goals rw [kept_one M r more hbitH.out]
                  all_goals simp only [hQ.out]
                  all_goals rw [hA]
                  all_goals unfold rungOf
                  all_goals split <;> split <;> (try split) <;> (try split) <;> (try unfold wrap64) <;> omega
set_option maxHeartbeats 1000000 in
set_option maxRecDepth 100000 in
theorem roundOneTop (s more : Bool) (M g k cap L : Nat) (e D : Int) (w : World) (h0 : M ≠ 0) (hL : M.log2 = L) (hLk : L + 1 ≤ k) (hk : k ≤ 20000) (he1 : -20000 ≤ e) (he2 : e ≤ 20000)
    (hc : BitsAt w g k M) (u : Int) (hu : -1074 ≤ e + L - 52) (hU : e + ((L : Int) + 1) - 53 = u) (hD : u - e = D) (hLD : (L : Int) ≤ D + 52) (d : Nat) (hd : D = (d : Int) + 1) (hdL : d ≤ L) (hbit : M / 2 ^ d % 2 = 1) :
    Calls Tryd.prog 28 #[.bool s, .slice (some ⟨g, 0, none⟩) k cap, .int .i64 e, .bool more] w fun e' w' => e' = .returned (.int .i64 (signedOf s ((rungOf (keptOf M (d + 1) more) u : Nat) : Int))) ∧ w' = w := by
  have honeH : Hid (M / 2 ^ L % 2 = 1) := top_bit h0 hL
  have hzH : Hid (∀ j, L < j → M / 2 ^ j = 0) := no_bit hL
  have hfew : Hid (∀ y : Nat, L ≤ y + 52 → M / 2 ^ y < 9007199254740992) := few_bits hL
  have hmore : Hid (∀ t : Nat, L + t ≤ 52 → M * 2 ^ t < 9007199254740992) := few_more hL
  have hcH : Hid (BitsAt w g k M) := hc
  clear hc hL h0
  have hdH : Hid (D = (d : Int) + 1) := hd
  clear hd
  have hbitH : Hid (M / 2 ^ d % 2 = 1) := hbit
  clear hbit
  go_enter Tryd.func28, Tryd.ntmps28
  go_wp2
  go_loop [9] (fun n => ∃ t : Nat, L + 1 ≤ t ∧ t ≤ k ∧ n = .int .i64 t) (fun n => (intOf n).toNat)
  case atStart => exact ⟨k, hLk, Nat.le_refl _, rfl⟩
  case round =>
    obtain ⟨t, ht1, ht2, rfl⟩ := hrel
    obtain ⟨t, rfl⟩ : ∃ t', t = t' + 1 := ⟨t - 1, by omega⟩
    have hcell := hcH.out t (by omega)
    by_cases htL : t = L
    rotate_left
    · have h00 := hzH.out t (by omega)
      rw [h00] at hcell
      clear h00
      go_wp2
      go_round
      case rel => exact ⟨t, by omega, by omega, by go_num⟩
      case measure => simp [intOf]
    · subst htL
      rw [honeH.out] at hcell
      go_wp2
      clear hcell ht1 ht2
      go_loop [12, 13] (fun q i => ∃ x : Int, -1 ≤ x ∧ x ≤ t ∧ (x = t ∨ D - 1 ≤ x) ∧ i = .int .i64 x ∧ q = .int .i64 ((M / 2 ^ (x + 1).toNat : Nat) : Int)) (fun _ i => (intOf i + 1).toNat)
      case atStart => exact ⟨t, by omega, by omega, .inl rfl, rfl, by rw [show ((t : Int) + 1).toNat = t + 1 by omega, hzH.out (t + 1) (by omega)]; rfl⟩
      case round =>
        obtain ⟨x, hx1, hx2, hx3, rfl, rfl⟩ := hrel
        by_cases hx : 0 ≤ x ∧ D ≤ x
        · obtain ⟨hx0, hxD⟩ := hx
          obtain ⟨y, rfl⟩ : ∃ y : Nat, x = y := ⟨x.toNat, by omega⟩
          have hcell := hcH.out y (by omega)
          have hst := bit_step M y
          have hfb := hfew.out y (by omega)
          rw [show ((y : Int) + 1).toNat = y + 1 by omega]
          have hfin : Hid (M / 2 ^ ((y : Int) - 1 + 1).toNat = M / 2 ^ y) := congrArg (fun z => M / 2 ^ z) (by omega)
          generalize M / 2 ^ y % 2 = b at *
          generalize M / 2 ^ (y + 1) = A at *
          generalize M / 2 ^ y = B at *
          subst hst
          go_wp2
          go_round
          case rel => exact ⟨(y : Int) - 1, by omega, by omega, .inr (by omega), rfl, by rw [hfin.out]; go_num⟩
          case measure => simp [intOf]
        · obtain rfl : x = (d : Int) := by have := hdH.out; omega
          have hAq : Hid (∃ A, M / 2 ^ (d + 1) = A) := ⟨_, rfl⟩
          obtain ⟨A, hA⟩ := hAq.out
          have hb1 := hfew.out (d + 1) (by have := hdH.out; omega)
          rw [show ((d : Int) + 1).toNat = d + 1 by omega]
          rw [hA] at hb1 ⊢
          have hAH : Hid (M / 2 ^ (d + 1) = A) := hA
          clear hA hAq
          obtain ⟨z, hzA⟩ : ∃ z : Int, z = (A : Int) := ⟨_, rfl⟩
          rw [← hzA]
          have hz1 : 0 ≤ z := by omega
          have hz2 : z ≤ 9007199254740991 := by omega
          have hzH2 : Hid (z = (A : Int)) := hzA
          clear hzA hb1
          go_wp2
          go_loop [11, 12] (fun d q => d = .int .i64 D ∧ q = .int .i64 z) (fun _ _ => 0)
          case atStart => exact ⟨rfl, rfl⟩
          case round =>
            obtain ⟨rfl, rfl⟩ := hrel
            have hd := hdH.out
            have hD0 : ¬ D < 0 := by omega
            have hD1 : 0 < D := by omega
            have hD2 : D ≤ (t : Int) + 1 := by omega
            have hcell := hcH.out d (by omega)
            rw [hbitH.out] at hcell
            clear hdH
            subst hd
            go_wp2
            clear hcell
            go_loop [14, 15] (fun b i => ∃ r : Nat, r ≤ d ∧ i = .int .i64 r ∧ b = .bool (more || decide (M % 2 ^ r ≠ 0))) (fun _ i => d - (intOf i).toNat)
            case atStart => exact ⟨0, by omega, rfl, by simp [Nat.mod_one]⟩
            case round =>
              obtain ⟨r, hr, rfl, rfl⟩ := hrel
              by_cases hlt : r < d
              · have hcell := hcH.out r (by omega)
                have hlt' : (r : Int) < (d : Int) := by omega
                have hsp := rest_step more M r
                by_cases hb : (more || decide (M % 2 ^ r ≠ 0)) = true
                · rw [hb] at hsp ⊢
                  simp only [Bool.true_or] at hsp
                  have hspH : Hid ((more || decide (M % 2 ^ (r + 1) ≠ 0)) = true) := hsp
                  clear hsp hb
                  go_wp2
                  go_round
                  case rel => exact ⟨r + 1, by omega, by go_num, by rw [hspH.out]⟩
                  case measure => simp [intOf]; omega
                · have hb' : (more || decide (M % 2 ^ r ≠ 0)) = false := by simpa using hb
                  rw [hb'] at hsp ⊢
                  simp only [Bool.false_or] at hsp
                  have hspH : Hid ((more || decide (M % 2 ^ (r + 1) ≠ 0)) = decide (M / 2 ^ r % 2 = 1)) := hsp
                  clear hsp hb hb'
                  generalize M / 2 ^ r % 2 = b at *
                  go_wp2
                  go_round
                  case rel => exact ⟨r + 1, by omega, by go_num, by rw [hspH.out]; congr 1; by_cases h1 : b = 1 <;> simp [h1] <;> omega⟩
                  case measure => simp [intOf]; omega
              · obtain rfl : r = d := by omega
                have hlt' : ¬ (r : Int) < (r : Int) := by omega
                clear hfew hmore hzH honeH hcH
                by_cases hb : (more || decide (M % 2 ^ r ≠ 0)) = true
                · rw [hb]
                  have hQ : Hid (more = true ∨ M % 2 ^ r ≠ 0 ∨ M / 2 ^ (r + 1) % 2 = 1) := by
                    simp only [Bool.or_eq_true, decide_eq_true_eq] at hb
                    rcases hb with hb | hb
                    · exact .inl hb
                    · exact .inr (.inl hb)
                  clear hb
                  go_wp2_with (go_at_call 25; refine (signed_calls _ _ _).mono ?_; rintro e' w' ⟨rfl, he'⟩; subst he')
                  all_goals have hzA := hzH2.out
                  all_goals have hA := hAH.out
                  all_goals go_ret
                  all_goals refine ⟨?_, rfl⟩
                  all_goals refine congrArg (fun z => Ending.returned (Value.int .i64 (signedOf s z))) ?_
                  all_goals try have hbe : z + 1 = 9007199254740992 := by simpa using ‹(z + 1 == 9007199254740992) = true›
                  all_goals try have hbn : z + 1 ≠ 9007199254740992 := by simpa using ‹(z + 1 == 9007199254740992) = false›
                  all_goals rw [kept_one M r more hbitH.out, if_pos hQ.out, hA]
                  all_goals unfold rungOf
                  all_goals split <;> (try split) <;> (try split) <;> (try unfold wrap64) <;> omega
                · have hb' : (more || decide (M % 2 ^ r ≠ 0)) = false := by simpa using hb
                  rw [hb']
                  have hQ : Hid ((more = true ∨ M % 2 ^ r ≠ 0 ∨ M / 2 ^ (r + 1) % 2 = 1) ↔ A % 2 = 1) := by
                    have e := hAH.out
                    simp only [Bool.or_eq_true, decide_eq_true_eq, not_or] at hb
                    show _ ↔ _
                    rw [e]
                    exact ⟨fun h => by rcases h with h | h | h; exact absurd h hb.1; exact absurd h hb.2; exact h, fun h => .inr (.inr h)⟩
                  clear hb hb'
                  go_wp2_with (go_at_call 25; refine (signed_calls _ _ _).mono ?_; rintro e' w' ⟨rfl, he'⟩; subst he')
                  all_goals have hzA := hzH2.out
                  all_goals have hA := hAH.out
                  all_goals go_ret
                  all_goals refine ⟨?_, rfl⟩
                  all_goals refine congrArg (fun z => Ending.returned (Value.int .i64 (signedOf s z))) ?_
                  all_goals try have hbe : z + 1 = 9007199254740992 := by simpa using ‹(z + 1 == 9007199254740992) = true›
                  all_goals try have hbn : z + 1 ≠ 9007199254740992 := by simpa using ‹(z + 1 == 9007199254740992) = false›
                  all_goals try have hoe : z % 2 = 1 := by simpa using ‹(z % 2 == 1) = true›
                  all_goals try have hon : z % 2 ≠ 1 := by simpa using ‹(z % 2 == 1) = false›
                  all_goals rw [kept_one M r more hbitH.out]
                  all_goals simp only [hQ.out]
                  all_goals rw [hA]
                  all_goals unfold rungOf
                  all_goals split <;> split <;> (try split) <;> (try split) <;> (try unfold wrap64) <;> omega
end Go.Proofs.YtjbknbinaegpkaaDoor
