/- math.ldexp and math.Ldexp at a float of at least 1 that is told by its exponent and its fraction. -/
import Derived.Test.YtjbknbinaegpkaaDoorLdx
namespace Go.Proofs.YtjbknbinaegpkaaDoor
set_option linter.unusedVariables false
open Go.ChangeShapes Go.WideShapes Go.ChangeAt Go.RowKit
open Ieee

/-- What the walk asks of a finite float that is not below 2^-1022. -/
structure OneUp (X : Nat) : Prop where
  lt : X < 9223372036854775808
  nz : (FloatKind.f64.format.order X 0 == some .eq) = false
  inf : (FloatKind.f64.format.order X 9218868437227405311 == some .gt) = false
  nan : (FloatKind.f64.format.order X X != some .eq) = false
  neg : (FloatKind.f64.format.order X 0 == some .lt) = false
  low : (FloatKind.f64.format.order X 4503599627370496 == some .lt) = false

theorem and_sign (b : Nat) (h : b < 9223372036854775808) : bits .and .u64 (b : Int) 9223372036854775808 = 0 := by
  show IntKind.u64.wrap ((BitVec.ofInt 64 (b : Int) &&& BitVec.ofInt 64 9223372036854775808).toNat) = _
  have e2 : (BitVec.ofInt 64 9223372036854775808).toNat = 2 ^ 63 := by decide
  rw [BitVec.toNat_and, ofInt_nat b (by omega), e2]
  have : b &&& 2 ^ 63 = 0 := by
    apply Nat.eq_of_testBit_eq
    intro i
    rw [Nat.testBit_and, Nat.testBit_two_pow]
    by_cases hi : 63 = i
    · subst hi
      rw [Nat.testBit_lt_two_pow (by omega)]; simp
    · simp [hi]
  rw [this]
  rfl

theorem copysign_calls (X : Nat) (h : X < 9223372036854775808) (w : World) : Calls Tryd.prog 69 #[.float .f64 0, .float .f64 X] w fun e w' => e = .returned (.float .f64 0) ∧ w' = w := by
  have hb := f64bits
  have hf := f64from
  have h1 : bits .and .u64 (X : Int) 9223372036854775808 = 0 := and_sign X h
  have h2 : bits .andNot .u64 0 9223372036854775808 = 0 := by kernel_rfl
  have h3 : bits .or .u64 0 0 = 0 := by kernel_rfl
  go_enter Tryd.func69, Tryd.ntmps69
  go_wp2
  go_ret
  exact ⟨rfl, rfl⟩

theorem mulBase (x y : Nat) (w : World) : (binOp .mul 33 (.float .f64 x) (.float .f64 y)).run Tryd.prog w = (Op.floatArith .mul .f64 x y).run Tryd.prog w := by kernel_rfl
theorem mulRun (x y r : Nat) (h : FloatKind.f64.format.mul x y = some r) (w : World) : (binOp .mul 33 (.float .f64 x) (.float .f64 y)).run Tryd.prog w = .ok (.float .f64 r) w := by
  rw [mulBase]; unfold Op.floatArith; simp only [h]; rfl

set_option maxRecDepth 1000000 in
theorem ldexp_low (X : Nat) (hX : OneUp X) (k E : Int) (w : World) (hE : wrap64 (k + wrap64 (bits BinOp.and IntKind.i64 (wrap64 ((X : Int) / 4503599627370496)) 2047 - 1023)) = E) (b1 : -100000 ≤ k) (b2 : k ≤ 100000) (h1 : E < -1075) :
    Calls Tryd.prog 53 #[.float .f64 X, .int .i64 k] w fun e w' => e = .returned (.float .f64 0) ∧ w' = w := by
  have hI : Hid (∀ w, Calls Tryd.prog 17 #[.float .f64 X, .int .i64 0] w fun e w' => e = .returned (.bool false) ∧ w' = w) := fun w => by
    have := isInfAny_calls X hX.lt w; rw [hX.inf] at this; exact this
  have hN : Hid (∀ w, Calls Tryd.prog 16 #[.float .f64 X] w fun e w' => e = .returned (.bool false) ∧ w' = w) := fun w => by
    have := isNaNB_calls X w; rw [hX.nan] at this; exact this
  have hO : Hid (∀ w, Calls Tryd.prog 68 #[.float .f64 X] w fun e w' => e = .returned (.tuple #[.float .f64 X, .int .i64 0]) ∧ w' = w) := fun w => normalize_calls X hX.lt hX.low w
  have hz := hX.nz
  have hb := f64bits
  have hf := f64from
  have hC : Hid (∀ w, Calls Tryd.prog 69 #[.float .f64 0, .float .f64 X] w fun e w' => e = .returned (.float .f64 0) ∧ w' = w) := fun w => copysign_calls X hX.lt w
  clear hX
  go_enter Tryd.func53, Tryd.ntmps53
  go_wp2_with (first
    | (go_at_call 17; refine (hI.out _).mono ?_; rintro e w' ⟨rfl, he⟩; subst he)
    | (go_at_call 16; refine (hN.out _).mono ?_; rintro e w' ⟨rfl, he⟩; subst he)
    | (go_at_call 68; refine (hO.out _).mono ?_; rintro e w' ⟨rfl, he⟩; subst he)
    | (go_at_call 69; refine (hC.out _).mono ?_; rintro e w' ⟨rfl, he⟩; subst he))
  go_ret
  exact ⟨rfl, rfl⟩

set_option maxRecDepth 1000000 in
theorem ldexp_high (X : Nat) (hX : OneUp X) (k E : Int) (w : World) (hE : wrap64 (k + wrap64 (bits BinOp.and IntKind.i64 (wrap64 ((X : Int) / 4503599627370496)) 2047 - 1023)) = E) (b1 : -100000 ≤ k) (b2 : k ≤ 100000) (h1 : 1023 < E) :
    Calls Tryd.prog 53 #[.float .f64 X, .int .i64 k] w fun e w' => e = .returned (.float .f64 9218868437227405312) ∧ w' = w := by
  have hI : Hid (∀ w, Calls Tryd.prog 17 #[.float .f64 X, .int .i64 0] w fun e w' => e = .returned (.bool false) ∧ w' = w) := fun w => by
    have := isInfAny_calls X hX.lt w; rw [hX.inf] at this; exact this
  have hN : Hid (∀ w, Calls Tryd.prog 16 #[.float .f64 X] w fun e w' => e = .returned (.bool false) ∧ w' = w) := fun w => by
    have := isNaNB_calls X w; rw [hX.nan] at this; exact this
  have hO : Hid (∀ w, Calls Tryd.prog 68 #[.float .f64 X] w fun e w' => e = .returned (.tuple #[.float .f64 X, .int .i64 0]) ∧ w' = w) := fun w => normalize_calls X hX.lt hX.low w
  have hz := hX.nz
  have hb := f64bits
  have hf := f64from
  have hg := hX.neg
  have hC : Hid (∀ w, Calls Tryd.prog 32 #[.int .i64 1] w fun e w' => e = .returned (.float .f64 9218868437227405312) ∧ w' = w) := infUp_calls
  clear hX
  go_enter Tryd.func53, Tryd.ntmps53
  go_wp2_with (first
    | (go_at_call 17; refine (hI.out _).mono ?_; rintro e w' ⟨rfl, he⟩; subst he)
    | (go_at_call 16; refine (hN.out _).mono ?_; rintro e w' ⟨rfl, he⟩; subst he)
    | (go_at_call 68; refine (hO.out _).mono ?_; rintro e w' ⟨rfl, he⟩; subst he)
    | (go_at_call 32; refine (hC.out _).mono ?_; rintro e w' ⟨rfl, he⟩; subst he))
  go_ret
  exact ⟨rfl, rfl⟩

set_option maxRecDepth 1000000 in
theorem ldexp_nor (X : Nat) (hX : OneUp X) (k E : Int) (w : World) (hE : wrap64 (k + wrap64 (bits BinOp.and IntKind.i64 (wrap64 ((X : Int) / 4503599627370496)) 2047 - 1023)) = E) (b1 : -100000 ≤ k) (b2 : k ≤ 100000) (h1 : -1022 ≤ E) (h2 : E ≤ 1023) (F Y : Int) (hA : bits .andNot .u64 (X : Int) 9218868437227405312 = F) (hB : bits .or .u64 F ((E + 1023) * 4503599627370496) = Y) (R : Nat) (hm : FloatKind.f64.format.mul 4607182418800017408 Y.toNat = some R) :
    Calls Tryd.prog 53 #[.float .f64 X, .int .i64 k] w fun e w' => e = .returned (.float .f64 R) ∧ w' = w := by
  have hI : Hid (∀ w, Calls Tryd.prog 17 #[.float .f64 X, .int .i64 0] w fun e w' => e = .returned (.bool false) ∧ w' = w) := fun w => by
    have := isInfAny_calls X hX.lt w; rw [hX.inf] at this; exact this
  have hN : Hid (∀ w, Calls Tryd.prog 16 #[.float .f64 X] w fun e w' => e = .returned (.bool false) ∧ w' = w) := fun w => by
    have := isNaNB_calls X w; rw [hX.nan] at this; exact this
  have hO : Hid (∀ w, Calls Tryd.prog 68 #[.float .f64 X] w fun e w' => e = .returned (.tuple #[.float .f64 X, .int .i64 0]) ∧ w' = w) := fun w => normalize_calls X hX.lt hX.low w
  have hz := hX.nz
  have hb := f64bits
  have hf := f64from
  have hM := mulRun _ _ _ hm
  clear hm
  clear hX
  go_enter Tryd.func53, Tryd.ntmps53
  go_wp2_with (first
    | (go_at_call 17; refine (hI.out _).mono ?_; rintro e w' ⟨rfl, he⟩; subst he)
    | (go_at_call 16; refine (hN.out _).mono ?_; rintro e w' ⟨rfl, he⟩; subst he)
    | (go_at_call 68; refine (hO.out _).mono ?_; rintro e w' ⟨rfl, he⟩; subst he))
  go_ret
  exact ⟨rfl, rfl⟩

set_option maxRecDepth 1000000 in
theorem ldexp_den (X : Nat) (hX : OneUp X) (k E : Int) (w : World) (hE : wrap64 (k + wrap64 (bits BinOp.and IntKind.i64 (wrap64 ((X : Int) / 4503599627370496)) 2047 - 1023)) = E) (b1 : -100000 ≤ k) (b2 : k ≤ 100000) (h1 : -1075 ≤ E) (h2 : E < -1022) (F Y : Int) (hA : bits .andNot .u64 (X : Int) 9218868437227405312 = F) (hB : bits .or .u64 F ((E + 53 + 1023) * 4503599627370496) = Y) (R : Nat) (hm : FloatKind.f64.format.mul 4368491638549381120 Y.toNat = some R) :
    Calls Tryd.prog 53 #[.float .f64 X, .int .i64 k] w fun e w' => e = .returned (.float .f64 R) ∧ w' = w := by
  have hI : Hid (∀ w, Calls Tryd.prog 17 #[.float .f64 X, .int .i64 0] w fun e w' => e = .returned (.bool false) ∧ w' = w) := fun w => by
    have := isInfAny_calls X hX.lt w; rw [hX.inf] at this; exact this
  have hN : Hid (∀ w, Calls Tryd.prog 16 #[.float .f64 X] w fun e w' => e = .returned (.bool false) ∧ w' = w) := fun w => by
    have := isNaNB_calls X w; rw [hX.nan] at this; exact this
  have hO : Hid (∀ w, Calls Tryd.prog 68 #[.float .f64 X] w fun e w' => e = .returned (.tuple #[.float .f64 X, .int .i64 0]) ∧ w' = w) := fun w => normalize_calls X hX.lt hX.low w
  have hz := hX.nz
  have hb := f64bits
  have hf := f64from
  have hM := mulRun _ _ _ hm
  clear hm
  clear hX
  go_enter Tryd.func53, Tryd.ntmps53
  go_wp2_with (first
    | (go_at_call 17; refine (hI.out _).mono ?_; rintro e w' ⟨rfl, he⟩; subst he)
    | (go_at_call 16; refine (hN.out _).mono ?_; rintro e w' ⟨rfl, he⟩; subst he)
    | (go_at_call 68; refine (hO.out _).mono ?_; rintro e w' ⟨rfl, he⟩; subst he))
  go_ret
  exact ⟨rfl, rfl⟩

theorem order_ne (a b : Nat) (ha : a < 9223372036854775808) (hb : b < 9223372036854775808) (hn : a ≤ 9218868437227405312) (hn2 : b ≤ 9218868437227405312) : FloatKind.f64.format.order a b = some (compare (sg false a) (sg false b)) := by
  have e : ∀ r, double.word false r = r := fun r => by unfold Format.word; simp
  have h := order_words false false a b ha hb
  rw [e, e, if_neg (by omega)] at h
  exact h
theorem oneUp_of (X : Nat) (h1 : 4607182418800017408 ≤ X) (h2 : X < 9218868437227405312) : OneUp X := by
  refine ⟨by omega, ?_, ?_, ?_, ?_, ?_⟩
  · rw [order_ne X 0 (by omega) (by omega) (by omega) (by omega), compare_gt (by simp [sg]; omega)]; rfl
  · rw [order_ne X 9218868437227405311 (by omega) (by omega) (by omega) (by omega)]
    by_cases h : X = 9218868437227405311
    · rw [compare_eq (by simp [sg]; omega)]; rfl
    · rw [compare_lt (by simp [sg]; omega)]; rfl
  · rw [order_ne X X (by omega) (by omega) (by omega) (by omega), compare_eq rfl]; rfl
  · rw [order_ne X 0 (by omega) (by omega) (by omega) (by omega), compare_gt (by simp [sg]; omega)]; rfl
  · rw [order_ne X 4503599627370496 (by omega) (by omega) (by omega) (by omega), compare_gt (by simp [sg]; omega)]; rfl

theorem mul_open (x y : Nat) : FloatKind.f64.format.mul x y = ((double.read x).product (double.read y)).map double.write := rfl
theorem product_num (m n : Nat) (i j : Int) : (Datum.number false m i).product (.number false n j) = some (.number false (m * n) (i + j)) := rfl
/-- The product with a power of two that is written as such. -/
theorem mul_word (c : Nat) (e : Int) (hc : double.read c = .number false 4503599627370496 e) (m L : Nat) (hL : m.log2 = L) (h0 : m ≠ 0) (hm : m < 9007199254740992) (y : Nat) (h1 : 1 ≤ y) (h2 : y ≤ 2046) :
    FloatKind.f64.format.mul c (y * 4503599627370496 + (m * 2 ^ (52 - L) - 4503599627370496)) = some (rndOf m (e + (y : Int) - 971 - L)) := by
  obtain ⟨hl, g1, g2⟩ := log_small m h0 hm
  rw [hL] at hl g1 g2
  have hw : ∀ r, double.word false r = r := fun r => by unfold Format.word; simp
  obtain ⟨Y, hY⟩ : ∃ Y, Y = y * 4503599627370496 + (m * 2 ^ (52 - L) - 4503599627370496) := ⟨_, rfl⟩
  have hr := read_finite false Y (by omega)
  have hs : sig Y = m * 2 ^ (52 - L) := by
    unfold sig; rw [if_neg (by omega)]; omega
  have hx : ex Y = y - 1 := by
    unfold ex; omega
  rw [← hY, mul_open]
  rw [hw Y] at hr
  rw [hr, hc, hs, hx]
  rw [product_num, Option.map_some, write_rnd, hw]
  congr 1
  have hp : 4503599627370496 * (m * 2 ^ (52 - L)) = m * 2 ^ (104 - L) := by
    rw [show (4503599627370496 : Nat) = 2 ^ 52 by decide, Nat.mul_left_comm, ← Nat.pow_add]
    congr 2; omega
  rw [hp]
  have := rnd_scale (104 - L) m (e + (y : Int) - 971 - L)
  rw [← this]
  congr 1
  omega

/-- THE LAW OF LDEXP: at a float that is a whole number of at most 53 bits, not 0. -/
theorem ldexp_calls (m : Nat) (h0 : m ≠ 0) (hm : m < 9007199254740992) (k : Int) (b1 : -100000 ≤ k) (b2 : k ≤ 100000) (w : World) :
    Calls Tryd.prog 53 #[.float .f64 ((m.log2 + 1022) * 4503599627370496 + m * 2 ^ (52 - m.log2)), .int .i64 k] w fun e w' => e = .returned (.float .f64 (rndOf m k)) ∧ w' = w := by
  obtain ⟨hl, g1, g2⟩ := log_small m h0 hm
  obtain ⟨L, hL⟩ : ∃ L, m.log2 = L := ⟨_, rfl⟩
  rw [hL] at hl g1 g2 ⊢
  obtain ⟨F, hF⟩ : ∃ F, F = m * 2 ^ (52 - L) - 4503599627370496 := ⟨_, rfl⟩
  have hFl : F < 4503599627370496 := by omega
  have hXe : (L + 1022) * 4503599627370496 + m * 2 ^ (52 - L) = (L + 1023) * 4503599627370496 + F := by omega
  rw [hXe]
  have hX : OneUp ((L + 1023) * 4503599627370496 + F) := oneUp_of _ (by omega) (by omega)
  have hq : wrap64 ((((L + 1023) * 4503599627370496 + F : Nat) : Int) / 4503599627370496) = ((L + 1023 : Nat) : Int) := by
    unfold wrap64; omega
  have hE : wrap64 (k + wrap64 (bits BinOp.and IntKind.i64 (wrap64 ((((L + 1023) * 4503599627370496 + F : Nat) : Int) / 4503599627370496)) 2047 - 1023)) = k + L := by
    rw [hq, show (2047 : Int) = 2 ^ 11 - 1 by decide, and_mask _ 11 (by decide)]
    unfold wrap64; omega
  by_cases c1 : k + L < -1075
  · have h := ldexp_low _ hX k (k + L) w hE b1 b2 c1
    rw [rnd_low m k h0 (by rw [hL]; exact c1)]
    exact h
  by_cases c2 : 1023 < k + L
  · have h := ldexp_high _ hX k (k + L) w hE b1 b2 c2
    rw [rnd_high m k h0 (by rw [hL]; exact c2)]
    exact h
  have hA := andNot_exp (L + 1023) F (by omega) hFl
  by_cases c3 : k + L < -1022
  · obtain ⟨y, hy⟩ : ∃ y : Nat, (y : Int) = k + L + 53 + 1023 := ⟨(k + L + 53 + 1023).toNat, by omega⟩
    have hB := or_exp F y hFl (by omega)
    have hB' : bits .or .u64 (F : Int) ((k + L + 53 + 1023) * 4503599627370496) = ((y * 4503599627370496 + F : Nat) : Int) := by
      rw [← hB, ← hy, show ((y * 4503599627370496 : Nat) : Int) = (y : Int) * 4503599627370496 by omega]
    have hr : double.read 4368491638549381120 = .number false 4503599627370496 (-105) := by kernel_rfl
    have hM := mul_word 4368491638549381120 (-105) hr m L hL h0 hm y (by omega) (by omega)
    rw [← hF] at hM
    have h := ldexp_den _ hX k (k + L) w hE b1 b2 (by omega) c3 F _ hA hB' _ hM
    rw [show (-105 : Int) + (y : Int) - 971 - L = k by omega] at h
    exact h
  · obtain ⟨y, hy⟩ : ∃ y : Nat, (y : Int) = k + L + 1023 := ⟨(k + L + 1023).toNat, by omega⟩
    have hB := or_exp F y hFl (by omega)
    have hB' : bits .or .u64 (F : Int) ((k + L + 1023) * 4503599627370496) = ((y * 4503599627370496 + F : Nat) : Int) := by
      rw [← hB, ← hy, show ((y * 4503599627370496 : Nat) : Int) = (y : Int) * 4503599627370496 by omega]
    have hr : double.read 4607182418800017408 = .number false 4503599627370496 (-52) := by kernel_rfl
    have hM := mul_word 4607182418800017408 (-52) hr m L hL h0 hm y (by omega) (by omega)
    rw [← hF] at hM
    have h := ldexp_nor _ hX k (k + L) w hE b1 b2 (by omega) (by omega) F _ hA hB' _ hM
    rw [show (-52 : Int) + (y : Int) - 971 - L = k by omega] at h
    exact h
end Go.Proofs.YtjbknbinaegpkaaDoor
