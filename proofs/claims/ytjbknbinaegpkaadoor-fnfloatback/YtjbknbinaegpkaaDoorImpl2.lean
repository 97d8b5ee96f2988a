/- impl.ShowFloat: what it answers at any bits of 64. -/
import Derived.Test.YtjbknbinaegpkaaDoorImpl
import Derived.Lib.LaidTab
namespace Go.Proofs.YtjbknbinaegpkaaDoor
set_option linter.unusedVariables false
open Go.ChangeShapes Go.WideShapes Go.ChangeAt Go.RowKit

/-- What the walk needs of the library's variables: a table. -/
structure Env (W : World) : Prop where
  tab : Lib.TabIs Tryd.prog W "internal/strconv.uint64pow10" .u64 Lib.pow10Tab
theorem Env.kept {W W' : World} (h : Env W) (hb : Below W.heap.size W W') : Env W' := by
  obtain ⟨g, hg⟩ : ∃ g, Tryd.prog.globalNamed "internal/strconv.uint64pow10" = some g := Option.isSome_iff_exists.1 (by kernel_rfl)
  have := h.tab
  refine ⟨?_⟩
  unfold Lib.TabIs World.var? at this ⊢
  rw [hg] at this ⊢
  simp only [Option.bind_some] at this ⊢
  have hlt : g < W.heap.size := by
    rcases Nat.lt_or_ge g W.heap.size with h' | h'
    · exact h'
    · rw [Array.getElem?_eq_none h'] at this; cases this
  rw [hb.block g hlt]; exact this
theorem format_calls (n : Int) (w : World) (h : Bd n) (he : Env w) : Calls Tryd.prog 19 #[.int .i64 n, .int .i64 10] w fun e w' => e = .returned (.string (FN n)) ∧ Below w.heap.size w w' := by
  have h0 := h.lo
  have h1 := h.hi
  refine (Tryd.strconv_FormatInt_10 n (by omega) (by omega) w he.tab).mono ?_
  rintro e w' ⟨rfl, k, os, rfl⟩
  refine ⟨rfl, rfl, rfl, rfl, ?_, fun j hj => ?_⟩
  · show w.heap.size ≤ (w.heap ++ os).size
    simp
  · show (w.heap ++ os)[j]? = w.heap[j]?
    rw [Array.getElem?_append_left hj]

theorem neg_word (s : Bool) (r : Nat) (h : r < 9223372036854775808) : Op.negFloat .f64 (Ieee.double.word s r) = Ieee.double.word (!s) r := by
  have e : (2 : Nat) ^ (FloatKind.f64.format.exponentBits + FloatKind.f64.format.fractionBits) = 2 ^ 63 := rfl
  unfold Op.negFloat
  rw [e]
  unfold Ieee.Format.word
  rw [sign_d]
  have h63 : (9223372036854775808 : Nat) = 2 ^ 63 := by decide
  have hl : r < 2 ^ 63 := by omega
  have ho := Nat.two_pow_add_eq_or_of_lt (i := 63) (b := r) hl 1
  rw [Nat.mul_one] at ho
  have hx : r ^^^ 2 ^ 63 = 2 ^ 63 + r := by
    rw [ho]
    apply Nat.eq_of_testBit_eq
    intro i
    rw [Nat.testBit_xor, Nat.testBit_or, Nat.testBit_two_pow]
    by_cases hi : 63 = i
    · subst hi; rw [Nat.testBit_lt_two_pow hl]; simp
    · simp [hi]
  cases s
  · simp only [Bool.false_eq_true, if_false, Bool.not_false, if_true]
    rw [hx, h63]
  · simp only [if_true, Bool.not_true, Bool.false_eq_true, if_false]
    rw [h63, ← hx, Nat.xor_assoc, Nat.xor_self, Nat.xor_zero]

theorem key_top : (9218868437227405311 : Nat) = Ieee.double.word false 9218868437227405311 := by kernel_rfl
theorem openC_inf (a : Int) : openC a = 1 ↔ rung a = 9218868437227405312 := by
  have := rung_parts a
  unfold openC
  have hK : 0 ≤ openK a ∧ openK a < 2048 := by unfold openK; omega
  have hF : 0 ≤ openF a ∧ openF a < 4503599627370496 := by unfold openF; omega
  constructor
  · intro h
    split at h
    · split at h
      · omega
      · simp at h
    · simp at h
  · intro h
    rw [if_pos (by omega), if_pos (by omega)]
theorem openC_vals (a : Int) : openC a = 0 ∨ openC a = 1 ∨ openC a = 2 := by
  unfold openC; split
  · split <;> simp
  · simp
theorem openC_zero {a : Int} (h1 : openC a ≠ 1) (h2 : openC a ≠ 2) : openK a ≠ 2047 := by
  intro h; unfold openC at h1 h2
  rw [if_pos h] at h1 h2
  by_cases hf : openF a = 0
  · rw [if_pos hf] at h1; exact h1 rfl
  · rw [if_neg hf] at h2; exact h2 rfl

/-- The three questions that ShowFloat asks of the float. -/
theorem ask_nan (a : Int) (h1 : -9223372036854775808 ≤ a) (h2 : a < 9223372036854775808) : (FloatKind.f64.format.order (IntKind.u64.wrap a).toNat (IntKind.u64.wrap a).toNat != some .eq) = decide (openC a = 2) := by
  rw [order_bits a a h1 h2 h1 h2]
  by_cases h : isNo a
  · rw [if_pos (.inl h)]; simp [(class_no a).2 h]
  · rw [if_neg (by simpa using h)]
    have : ¬ openC a = 2 := fun e => h ((class_no a).1 e)
    simp [this]
theorem ask_up (a : Int) (h1 : -9223372036854775808 ≤ a) (h2 : a < 9223372036854775808) (hn : openC a ≠ 2) : (FloatKind.f64.format.order (IntKind.u64.wrap a).toNat 9218868437227405311 == some .gt) = (decide (openC a = 1) && decide (0 ≤ a)) := by
  have hno : ¬ isNo a := fun e => hn ((class_no a).2 e)
  have hno' : ¬ 9218868437227405312 < rung a := hno
  show (Ieee.double.order (IntKind.u64.wrap a).toNat 9218868437227405311 == some .gt) = _
  rw [word_of a h1 h2, key_top, order_words _ _ _ _ (rung_lt a) (by decide), if_neg (by simp; omega)]
  by_cases ha : a < 0
  · rw [compare_lt (by simp [sg, ha]; omega)]
    have : ¬ 0 ≤ a := by omega
    simp [this]
  · have h0 : 0 ≤ a := by omega
    by_cases hc : openC a = 1
    · have hr := (openC_inf a).1 hc
      rw [compare_gt (by simp [sg, ha, hr])]
      simp [hc, h0]
    · have hr : rung a ≠ 9218868437227405312 := fun e => hc ((openC_inf a).2 e)
      have : (compare (sg (decide (a < 0)) (rung a)) (sg false 9218868437227405311) == Ordering.gt) = false := by
        rcases Nat.lt_or_ge (rung a) 9218868437227405311 with hl | hl
        · rw [compare_lt (by simp [sg, ha]; omega)]; rfl
        · rw [compare_eq (by simp [sg, ha]; omega)]; rfl
      simp [hc]
      simpa using this
theorem ask_down (a : Int) (h1 : -9223372036854775808 ≤ a) (h2 : a < 9223372036854775808) (hn : openC a ≠ 2) : (FloatKind.f64.format.order (Op.negFloat .f64 (IntKind.u64.wrap a).toNat) 9218868437227405311 == some .gt) = (decide (openC a = 1) && decide (a < 0)) := by
  have hno : ¬ isNo a := fun e => hn ((class_no a).2 e)
  have hno' : ¬ 9218868437227405312 < rung a := hno
  show (Ieee.double.order (Op.negFloat .f64 (IntKind.u64.wrap a).toNat) 9218868437227405311 == some .gt) = _
  rw [word_of a h1 h2, neg_word _ _ (rung_lt a), key_top, order_words _ _ _ _ (rung_lt a) (by decide), if_neg (by simp; omega)]
  by_cases ha : a < 0
  · by_cases hc : openC a = 1
    · have hr := (openC_inf a).1 hc
      rw [compare_gt (by simp [sg, ha, hr])]
      simp [hc, ha]
    · have hr : rung a ≠ 9218868437227405312 := fun e => hc ((openC_inf a).2 e)
      have : (compare (sg (!decide (a < 0)) (rung a)) (sg false 9218868437227405311) == Ordering.gt) = false := by
        rcases Nat.lt_or_ge (rung a) 9218868437227405311 with hl | hl
        · rw [compare_lt (by simp [sg, ha]; omega)]; rfl
        · rw [compare_eq (by simp [sg, ha]; omega)]; rfl
      simp [hc]
      simpa using this
  · rw [compare_lt (by simp [sg, ha]; omega)]
    simp [ha]

theorem strip_le : ∀ (n m : Nat) (e : Int), m ≤ n → (strip m e).1 ≤ m ∧ e ≤ (strip m e).2 ∧ (strip m e).2 ≤ e + m := by
  intro n
  induction n with
  | zero =>
    intro m e h
    obtain rfl : m = 0 := by omega
    rw [strip, dif_neg (by simp)]; simp
  | succ n ih =>
    intro m e h
    by_cases hev : m % 2 = 0 ∧ m ≠ 0
    · rw [strip_even hev.1 hev.2]
      have := ih (m / 2) (e + 1) (by omega)
      omega
    · rw [strip, dif_neg hev]; simp; omega
theorem odd_bound (a : Int) : Bd ((oddL a).1 : Int) ∧ Bd (oddL a).2 := by
  obtain ⟨b1, b2⟩ := openM_bound a
  obtain ⟨b3, b4⟩ := openE_bound a
  unfold oddL
  split
  · exact ⟨⟨by simp, by simp⟩, ⟨by simp, by simp⟩⟩
  · have := strip_le _ (openM a).toNat (openE a) (Nat.le_refl _)
    exact ⟨⟨by omega, by omega⟩, ⟨by omega, by omega⟩⟩
theorem show_odd {a : Int} (c1 : openC a ≠ 1) (c2 : openC a ≠ 2) : showL a = ((sgn a ++ Lib.decDigits (oddL a).1) ++ [112]) ++ Lib.itoa (oddL a).2 := by
  unfold showL oddL
  rw [if_neg c2, if_neg c1]
  split
  · have h0 : Lib.decDigits 0 = [48] := by rw [Lib.decDigits, dif_pos (by omega)]; rfl
    have h1 : Lib.itoa 0 = [48] := by rw [Lib.itoa, if_neg (by omega)]; exact h0
    rw [h0, h1]; simp
  · simp [showNum]

set_option maxRecDepth 1000000 in
set_option maxHeartbeats 2000000 in
theorem implShow_calls (a : Int) (w : World) (h1 : -9223372036854775808 ≤ a) (h2 : a < 9223372036854775808) (he : Env w) : Calls Tryd.prog 7 #[.int .i64 a] w fun e w' => e = .returned (.string (mkS (showL a))) ∧ Below w.heap.size w w' := by
  have heH : Hid (Env w) := he
  clear he
  have fH : Hid (∀ w, Calls Tryd.prog 15 #[.int .i64 a] w fun e w' => e = .returned (.float .f64 (IntKind.u64.wrap a).toNat) ∧ w' = w) := fun w => floatOf_calls a w
  have nanH : Hid (∀ w, Calls Tryd.prog 16 #[.float .f64 (IntKind.u64.wrap a).toNat] w fun e w' => e = .returned (.bool (decide (openC a = 2))) ∧ w' = w) := fun w => by
    rw [← ask_nan a h1 h2]; exact isNaN_calls _ w
  have upH : Hid (openC a ≠ 2 → ∀ w, Calls Tryd.prog 17 #[.float .f64 (IntKind.u64.wrap a).toNat, .int .i64 1] w fun e w' => e = .returned (.bool (decide (openC a = 1) && decide (0 ≤ a))) ∧ w' = w) := fun hn w => by
    rw [← ask_up a h1 h2 hn]; exact isInfUp_calls _ w
  have downH : Hid (openC a ≠ 2 → ∀ w, Calls Tryd.prog 17 #[.float .f64 (IntKind.u64.wrap a).toNat, .int .i64 (-1)] w fun e w' => e = .returned (.bool (decide (openC a = 1) && decide (a < 0))) ∧ w' = w) := fun hn w => by
    rw [← ask_down a h1 h2 hn]; exact isInfDown_calls _ w
  generalize (IntKind.u64.wrap a).toNat = A at *
  clear h1 h2
  by_cases c2 : openC a = 2
  · have hr : showL a = [110, 97, 110] := by unfold showL; rw [if_pos c2]
    have nanH2 : Hid (∀ w, Calls Tryd.prog 16 #[.float .f64 A] w fun e w' => e = .returned (.bool true) ∧ w' = w) := by simpa [c2] using nanH
    clear nanH upH downH c2
    go_enter Tryd.func7, Tryd.ntmps7
    go_wp2_with (first
      | (go_at_call 15; refine (fH.out _).mono ?_; rintro e w ⟨rfl, he⟩; subst he)
      | (go_at_call 16; refine (nanH2.out _).mono ?_; rintro e w ⟨rfl, he⟩; subst he))
    go_ret
    exact ⟨by rw [hr]; rfl, Below.refl _ _⟩
  have nanH2 : Hid (∀ w, Calls Tryd.prog 16 #[.float .f64 A] w fun e w' => e = .returned (.bool false) ∧ w' = w) := by simpa [c2] using nanH
  have upH2 := upH.out c2
  have downH2 := downH.out c2
  clear nanH upH downH
  by_cases c1 : openC a = 1
  · have hr : showL a = sgn a ++ [105, 110, 102] := by unfold showL; rw [if_neg c2, if_pos c1]
    by_cases hneg : a < 0
    · have hs : sgn a = [45] := by unfold sgn; rw [if_pos hneg]
      have hd : decide (0 ≤ a) = false := decide_eq_false (by omega)
      have upH3 : Hid (∀ w, Calls Tryd.prog 17 #[.float .f64 A, .int .i64 1] w fun e w' => e = .returned (.bool false) ∧ w' = w) := fun w => by simpa [c1, hd] using upH2 w
      have downH3 : Hid (∀ w, Calls Tryd.prog 17 #[.float .f64 A, .int .i64 (-1)] w fun e w' => e = .returned (.bool true) ∧ w' = w) := fun w => by simpa [c1, hneg] using downH2 w
      clear upH2 downH2 c1 c2 hd
      go_enter Tryd.func7, Tryd.ntmps7
      go_wp2_with (first
        | (go_at_call 15; refine (fH.out _).mono ?_; rintro e w ⟨rfl, he⟩; subst he)
        | (go_at_call 16; refine (nanH2.out _).mono ?_; rintro e w ⟨rfl, he⟩; subst he)
        | (go_at_call 17; fail))
      refine (upH3.out _).mono ?_
      rintro e w ⟨rfl, he⟩
      subst he
      go_wp2_with (first | (go_at_call 17; fail))
      refine (downH3.out _).mono ?_
      rintro e w ⟨rfl, he⟩
      subst he
      go_wp2
      go_ret
      exact ⟨by rw [hr, hs]; rfl, Below.refl _ _⟩
    · have hs : sgn a = [] := by unfold sgn; rw [if_neg hneg]
      have hd : decide (0 ≤ a) = true := decide_eq_true (by omega)
      have upH3 : Hid (∀ w, Calls Tryd.prog 17 #[.float .f64 A, .int .i64 1] w fun e w' => e = .returned (.bool true) ∧ w' = w) := fun w => by simpa [c1, hd] using upH2 w
      clear upH2 downH2 c1 c2 hd
      go_enter Tryd.func7, Tryd.ntmps7
      go_wp2_with (first
        | (go_at_call 15; refine (fH.out _).mono ?_; rintro e w ⟨rfl, he⟩; subst he)
        | (go_at_call 16; refine (nanH2.out _).mono ?_; rintro e w ⟨rfl, he⟩; subst he)
        | (go_at_call 17; fail))
      refine (upH3.out _).mono ?_
      rintro e w ⟨rfl, he⟩
      subst he
      go_wp2
      go_ret
      exact ⟨by rw [hr, hs]; rfl, Below.refl _ _⟩
  have upH3 : Hid (∀ w, Calls Tryd.prog 17 #[.float .f64 A, .int .i64 1] w fun e w' => e = .returned (.bool false) ∧ w' = w) := fun w => by simpa [c1] using upH2 w
  have downH3 : Hid (∀ w, Calls Tryd.prog 17 #[.float .f64 A, .int .i64 (-1)] w fun e w' => e = .returned (.bool false) ∧ w' = w) := fun w => by simpa [c1] using downH2 w
  have hK := openC_zero c1 c2
  obtain ⟨S, hS⟩ : ∃ S : List UInt8, S = sgn a := ⟨_, rfl⟩
  have hSl : S.length ≤ 1 := by rw [hS]; unfold sgn; split <;> simp
  have hodd : ∃ z1 z2 : Int, ((oddL a).1 : Int) = z1 ∧ (oddL a).2 = z2 := ⟨_, _, rfl, rfl⟩
  obtain ⟨z1, z2, hz1, hz2⟩ := hodd
  have oddH : Hid (∀ w, Calls Tryd.prog 18 #[.int .i64 a] w fun e w' => e = .returned (.tuple #[.int .i64 z1, .int .i64 z2]) ∧ w' = w) := fun w => by rw [← hz1, ← hz2]; exact odd_calls a w hK
  have hbd := odd_bound a
  have bm : Bd z1 := by rw [← hz1]; exact hbd.1
  have be : Bd z2 := by rw [← hz2]; exact hbd.2
  have hd1 : (FN z1).size ≤ 20 := itoa_size bm.1 bm.2
  have hd2 : (FN z2).size ≤ 20 := itoa_size be.1 be.2
  have hres : Hid (mkS (showL a) = ((mkS S ++ FN z1) ++ mkS [112]) ++ FN z2) := by
    show _ = _
    rw [FN, FN, mkS_append, mkS_append, mkS_append, ← hz1, ← hz2, itoa_nat, hS, show_odd c1 c2]
  have formH : Hid (∀ n, Bd n → ∀ W : World, Below w.heap.size w W → Calls Tryd.prog 19 #[.int .i64 n, .int .i64 10] W fun e w' => e = .returned (.string (FN n)) ∧ Below w.heap.size w w') := fun n hn W hW => by
    refine (format_calls n W hn (heH.out.kept hW)).mono ?_
    rintro e w' ⟨rfl, hb⟩
    exact ⟨rfl, hW.trans (hb.mono hW.size)⟩
  have hb0 : Below w.heap.size w w := Below.refl _ _
  clear upH2 downH2 c1 c2 hK hz1 hz2 hbd
  by_cases hneg : a < 0
  · have hs : S = [45] := by rw [hS]; unfold sgn; rw [if_pos hneg]
    subst hs
    clear hS
    go_enter Tryd.func7, Tryd.ntmps7
    go_wp2_with (first
      | (go_at_call 15; refine (fH.out _).mono ?_; rintro e w ⟨rfl, he⟩; subst he)
      | (go_at_call 16; refine (nanH2.out _).mono ?_; rintro e w ⟨rfl, he⟩; subst he)
      | (go_at_call 17; fail))
    refine (upH3.out _).mono ?_
    rintro e w ⟨rfl, he⟩
    subst he
    go_wp2_with (first | (go_at_call 17; fail))
    refine (downH3.out _).mono ?_
    rintro e w ⟨rfl, he⟩
    subst he
    go_wp2_with (first
      | (go_at_call 18; refine (oddH.out _).mono ?_; rintro e w ⟨rfl, he⟩; subst he)
      | (go_at_call 19; refine (formH.out _ (by assumption) _ hb0).mono ?_; rintro e w1 ⟨rfl, hb0⟩))
    go_ret
    refine ⟨?_, by assumption⟩
    rw [hres.out]; rfl
  · have hs : S = [] := by rw [hS]; unfold sgn; rw [if_neg hneg]
    subst hs
    clear hS
    go_enter Tryd.func7, Tryd.ntmps7
    go_wp2_with (first
      | (go_at_call 15; refine (fH.out _).mono ?_; rintro e w ⟨rfl, he⟩; subst he)
      | (go_at_call 16; refine (nanH2.out _).mono ?_; rintro e w ⟨rfl, he⟩; subst he)
      | (go_at_call 17; fail))
    refine (upH3.out _).mono ?_
    rintro e w ⟨rfl, he⟩
    subst he
    go_wp2_with (first | (go_at_call 17; fail))
    refine (downH3.out _).mono ?_
    rintro e w ⟨rfl, he⟩
    subst he
    go_wp2_with (first
      | (go_at_call 18; refine (oddH.out _).mono ?_; rintro e w ⟨rfl, he⟩; subst he)
      | (go_at_call 19; refine (formH.out _ (by assumption) _ hb0).mono ?_; rintro e w1 ⟨rfl, hb0⟩))
    go_ret
    refine ⟨?_, by assumption⟩
    rw [hres.out]; rfl
end Go.Proofs.YtjbknbinaegpkaaDoor
