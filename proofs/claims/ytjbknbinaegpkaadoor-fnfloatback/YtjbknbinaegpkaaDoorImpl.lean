/- impl.ShowFloat: what it answers at any bits. -/
import Derived.Test.YtjbknbinaegpkaaDoorShow
import Derived.Test.YtjbknbinaegpkaaDoorShelf
namespace Go.Proofs.YtjbknbinaegpkaaDoor
set_option linter.unusedVariables false
open Go.ChangeShapes Go.WideShapes Go.ChangeAt Go.RowKit

theorem float64frombits (n : Int) (w : World) : (callFunc 38 #[.int .u64 n]).run Tryd.prog w = .ok (.value (.float .f64 n.toNat)) w := by kernel_rfl
theorem floatOf_calls (n : Int) (w : World) : Calls Tryd.prog 15 #[.int .i64 n] w fun e w' => e = .returned (.float .f64 (IntKind.u64.wrap n).toNat) ∧ w' = w := by
  have hx := float64frombits
  go_enter Tryd.func15, Tryd.ntmps15
  go_wp2
  go_ret
  exact ⟨rfl, rfl⟩
theorem isNaN_calls (b : Nat) (w : World) : Calls Tryd.prog 16 #[.float .f64 b] w fun e w' => e = .returned (.bool (FloatKind.f64.format.order b b != some .eq)) ∧ w' = w := by
  go_enter Tryd.func16, Tryd.ntmps16
  go_wp2
  go_ret
  exact ⟨rfl, rfl⟩
theorem isInfUp_calls (b : Nat) (w : World) : Calls Tryd.prog 17 #[.float .f64 b, .int .i64 1] w fun e w' => e = .returned (.bool (FloatKind.f64.format.order b 9218868437227405311 == some .gt)) ∧ w' = w := by
  go_enter Tryd.func17, Tryd.ntmps17
  go_wp2
  go_ret
  exact ⟨rfl, rfl⟩
theorem run_negf (b : Nat) (w : World) : (Op.unary .neg (.float .f64 b)).run Tryd.prog w = .ok (.float .f64 (Op.negFloat .f64 b)) w := rfl
theorem isInfDown_calls (b : Nat) (w : World) : Calls Tryd.prog 17 #[.float .f64 b, .int .i64 (-1)] w fun e w' => e = .returned (.bool (FloatKind.f64.format.order (Op.negFloat .f64 b) 9218868437227405311 == some .gt)) ∧ w' = w := by
  have hn := run_negf b
  go_enter Tryd.func17, Tryd.ntmps17
  go_wp2
  go_ret
  exact ⟨rfl, rfl⟩

/-- lowNoughts: the number of twos in m, m not 0 and below 2^53. -/
theorem and_one (n : Int) : bits .and .i64 n 1 = n % 2 := and_mask n 1 (by decide)
theorem mod_step {m n : Nat} (h : m % 2 ^ n = 0) (h2 : m / 2 ^ n % 2 = 0) : m % 2 ^ (n + 1) = 0 := by
  rw [Nat.pow_succ, Nat.mod_mul, h, h2]; simp
set_option maxRecDepth 1000000 in
theorem low_calls (m : Nat) (w : World) (h0 : m ≠ 0) (hm : m < 9007199254740992) : Calls Tryd.prog 40 #[.int .i64 m] w fun e w' => ∃ n : Nat, e = .returned (.int .i64 n) ∧ n ≤ 52 ∧ m % 2 ^ n = 0 ∧ m / 2 ^ n % 2 = 1 ∧ w' = w := by
  have hmH : Hid (m < 9007199254740992) := hm
  clear hm
  go_enter Tryd.func40, Tryd.ntmps40
  go_wp2
  go_loop [4] (fun v => ∃ n : Nat, v = .int .i64 n ∧ n ≤ 53 ∧ Hid (m % 2 ^ n = 0)) (fun v => 53 - (intOf v).toNat)
  case atStart => exact ⟨0, rfl, by omega, by simp [Hid, Nat.mod_one]⟩
  case round =>
    obtain ⟨n, rfl, hn, hmod⟩ := hrel
    by_cases hlt : n < 53
    · have hlt1 : (n : Int) < 53 := by omega
      have ha := and_one
      have hcast : ((m / 2 ^ n % 2 : Nat) : Int) = (m : Int) / 2 ^ n % 2 := by push_cast; rfl
      by_cases hodd : m / 2 ^ n % 2 = 1
      · have hb : ((m : Int) / 2 ^ n % 2 == 1) = true := by rw [← hcast, hodd]; rfl
        have hoH : Hid (m / 2 ^ n % 2 = 1) := hodd
        clear hcast hodd
        go_wp2
        go_ret
        exact ⟨n, rfl, by omega, hmod.out, hoH.out, rfl⟩
      · have hb : ((m : Int) / 2 ^ n % 2 == 1) = false := by
          rw [← hcast, beq_eq_false_iff_ne]; omega
        have hmod2 : Hid (m % 2 ^ (n + 1) = 0) := mod_step hmod.out (by omega)
        clear hcast hodd hmod
        go_wp2
        go_round
        case rel => exact ⟨n + 1, by simp, by omega, hmod2⟩
        case measure => first | (simp [intOf]; done) | (simp [intOf]; omega)
    · exfalso
      obtain rfl : n = 53 := by omega
      have := hmod.out
      have h2 : m % 9007199254740992 = 0 := this
      have := hmH.out
      omega

theorem strip_low : ∀ (n m : Nat) (e : Int), m % 2 ^ n = 0 → m / 2 ^ n % 2 = 1 → strip m e = (m / 2 ^ n, e + n) := by
  intro n
  induction n with
  | zero => intro m e _ h; simp at h; rw [strip_odd (by omega)]; simp
  | succ n ih =>
    intro m e h1 h2
    have hev : m % 2 = 0 := by
      have : 2 ∣ m := Nat.dvd_trans ⟨2 ^ n, by rw [Nat.pow_succ, Nat.mul_comm]⟩ (Nat.dvd_of_mod_eq_zero h1)
      exact Nat.mod_eq_zero_of_dvd this
    have h0 : m ≠ 0 := by rintro rfl; simp at h2
    have e1 : m / 2 / 2 ^ n = m / 2 ^ (n + 1) := by rw [Nat.div_div_eq_div_mul, Nat.pow_succ, Nat.mul_comm]
    have e2 : m / 2 % 2 ^ n = 0 := by
      obtain ⟨k, hk⟩ := Nat.dvd_of_mod_eq_zero h1
      rw [hk, Nat.pow_succ, Nat.mul_comm (2 ^ n) 2, Nat.mul_assoc, Nat.mul_div_cancel_left _ (by decide)]
      simp
    rw [strip_even hev h0, ih (m / 2) (e + 1) e2 (by rw [e1]; exact h2), e1]
    congr 1; push_cast; omega
theorem or_top (f : Int) (h0 : 0 ≤ f) (h1 : f < 4503599627370496) : bits .or .i64 f 4503599627370496 = f + 4503599627370496 := by
  obtain ⟨n, rfl⟩ : ∃ n : Nat, f = n := ⟨f.toNat, by omega⟩
  show IntKind.i64.wrap ((BitVec.ofInt 64 (n : Int) ||| BitVec.ofInt 64 4503599627370496).toNat) = _
  have e1 : (BitVec.ofInt 64 (n : Int)).toNat = n := by rw [BitVec.ofInt_natCast, BitVec.toNat_ofNat]; exact Nat.mod_eq_of_lt (by omega)
  have e2 : (BitVec.ofInt 64 (4503599627370496 : Int)).toNat = 2 ^ 52 := by decide
  have h := Nat.two_pow_add_eq_or_of_lt (i := 52) (b := n) (by omega) 1
  rw [Nat.mul_one] at h
  rw [wrap_i64, BitVec.toNat_or, e1, e2, Nat.or_comm, ← h]
  have h3 : (2 : Nat) ^ 52 = 4503599627370496 := by decide
  rw [h3]
  rw [show ((4503599627370496 + n : Nat) : Int) = (n : Int) + 4503599627370496 by omega]
  exact wrap64_id _ (by omega) (by omega)

/-- The odd part and the power, as impl.oddAndPower gives them. -/
def oddL (a : Int) : Nat × Int := if openM a = 0 then (0, 0) else strip (openM a).toNat (openE a)
set_option maxRecDepth 1000000 in
set_option maxHeartbeats 1000000 in
theorem odd_calls (a : Int) (w : World) (hk : openK a ≠ 2047) : Calls Tryd.prog 18 #[.int .i64 a] w fun e w' => e = .returned (.tuple #[.int .i64 (oddL a).1, .int .i64 (oddL a).2]) ∧ w' = w := by
  have k1 := and_K a
  have k2 := and_F a
  have hK0 : 0 ≤ openK a ∧ openK a < 2048 := by unfold openK; omega
  have hF0 : 0 ≤ openF a ∧ openF a < 4503599627370496 := by unfold openF; omega
  obtain ⟨hMl, hMh⟩ := openM_bound a
  have hor := or_top (openF a) hF0.1 hF0.2
  have hE : Hid (openE a = max (openK a) 1 - 1075) := by
    show _ = _
    unfold openE; rw [if_neg hk]; split <;> omega
  have hMdef : Hid (openM a = if 0 < openK a then openF a + 4503599627370496 else openF a) := by
    show _ = _
    unfold openM; rw [if_neg hk]
    by_cases h : openK a = 0
    · rw [if_pos h, if_neg (by omega)]
    · rw [if_neg h, if_pos (by omega)]
  by_cases hM0 : openM a = 0
  · have hKz : openK a = 0 := by
      have := hMdef.out
      rw [hM0] at this
      split at this <;> omega
    have hFz : openF a = 0 := by
      have := hMdef.out
      rw [hM0, if_neg (by omega)] at this; omega
    have hr : oddL a = (0, 0) := by unfold oddL; rw [if_pos hM0]
    rw [hr]
    rw [hKz] at k1
    rw [hFz] at k2
    clear hor hE hMdef hMl hMh hK0 hF0 hk hM0 hKz hFz hr
    go_enter Tryd.func18, Tryd.ntmps18
    go_wp2
    go_ret2
    exact ⟨rfl, rfl⟩
  obtain ⟨M, hM⟩ : ∃ M : Nat, openM a = M := ⟨(openM a).toNat, by omega⟩
  have hr : oddL a = strip M (openE a) := by unfold oddL; rw [if_neg hM0, hM]; rfl
  have hM1 : M ≠ 0 := by rintro rfl; exact hM0 hM
  have hMb : M < 9007199254740992 := by omega
  have lowH : Hid (∀ w, Calls Tryd.prog 40 #[.int .i64 M] w fun e w' => ∃ n : Nat, e = .returned (.int .i64 n) ∧ n ≤ 52 ∧ strip M (openE a) = (M / 2 ^ n, max (openK a) 1 - 1075 + n) ∧ w' = w) := fun w => by
    refine (low_calls M w hM1 hMb).mono ?_
    rintro e w' ⟨n, rfl, hn, h1, h2, rfl⟩
    exact ⟨n, rfl, hn, by rw [strip_low n M _ h1 h2, hE.out], rfl⟩
  rw [hr]
  have hMne : ((M : Int) == 0) = false := by simpa using hM1
  by_cases hKp : 0 < openK a
  · have hor2 : bits .or .i64 (openF a) 4503599627370496 = (M : Int) := by rw [hor, ← hM, hMdef.out, if_pos hKp]
    have hmax : max (openK a) 1 = openK a := by omega
    rw [hmax] at lowH
    obtain ⟨K, hKe⟩ : ∃ K, openK a = K := ⟨_, rfl⟩
    rw [hKe] at k1 lowH hKp hK0
    obtain ⟨hK1, hK2⟩ := hK0
    clear hor hE hMdef hMl hMh hk hM0 hM hr hMb hmax hKe hM1 hF0
    go_enter Tryd.func18, Tryd.ntmps18
    go_wp2_with (go_at_call 40; refine (lowH.out _).mono ?_; rintro e w1 ⟨n, rfl, hn, hst, he⟩; subst he; have hstH : Hid (_ = _) := hst; clear hst)
    go_ret2
    refine ⟨?_, rfl⟩
    rw [hstH.out]
    simp <;> omega
  · have hKz : openK a = 0 := by omega
    have hF2 : openF a = (M : Int) := by rw [← hM, hMdef.out, if_neg hKp]
    have hmax : max (openK a) 1 = 1 := by omega
    rw [hmax] at lowH
    rw [hKz] at k1
    rw [hF2] at k2
    clear hor hE hMdef hMl hMh hk hM0 hM hr hMb hmax hM1 hF0 hK0 hKp hKz hF2
    go_enter Tryd.func18, Tryd.ntmps18
    go_wp2_with (go_at_call 40; refine (lowH.out _).mono ?_; rintro e w1 ⟨n, rfl, hn, hst, he⟩; subst he; have hstH : Hid (_ = _) := hst; clear hst)
    go_ret2
    refine ⟨?_, rfl⟩
    rw [hstH.out]
    simp <;> omega
end Go.Proofs.YtjbknbinaegpkaaDoor
