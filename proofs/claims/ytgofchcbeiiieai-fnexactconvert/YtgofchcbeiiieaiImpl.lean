/- impl.Convert: what it answers. -/
import Derived.Test.YtgofchcbeiiieaiTrunc
import Derived.Test.YtgofchcbeiiieaiWalk3
namespace Go.Proofs.Ytgofchcbeiiieai
open Go.ChangeShapes Go.WideShapes Go.ChangeAt Go.RowKit

theorem wrap64_32 (n : Int) : wrap64 (wrap32 n) = wrap32 n :=
  wrap64_id _ (by have := wrap32_in n; omega) (by have := wrap32_in n; omega)
theorem implWrap (n : Int) (w : World) :
    Calls Try.prog 17 #[.int .i64 n] w fun e w' => e = .returned (.int .i64 (wrap32 n)) ∧ w' = w := by
  go_enter Try.func17, Try.ntmps17
  go_wp2
  go_ret
  exact ⟨by simp [wrap64_32], rfl⟩
theorem spec_high (n : Int) (h : 2147483648 ≤ n % 4294967296) : n % 4294967296 - 4294967296 = wrap32 n := by
  unfold wrap32; omega
theorem spec_low (n : Int) (h : n % 4294967296 < 2147483648) : n % 4294967296 = wrap32 n := by
  unfold wrap32; omega
theorem specWrap (n : Int) (w : World) :
    Calls Try.prog 11 #[.int .i64 n] w fun e w' => e = .returned (.int .i64 (wrap32 n)) ∧ w' = w := by
  have ha := and32 n
  by_cases h : 2147483648 ≤ n % 4294967296
  · go_enter Try.func11, Try.ntmps11
    go_wp2
    go_ret
    exact ⟨by simp [spec_high n h], rfl⟩
  · have h' : n % 4294967296 < 2147483648 := by omega
    clear h
    go_enter Try.func11, Try.ntmps11
    go_wp2
    go_ret
    exact ⟨by simp [spec_low n h'], rfl⟩

theorem float64bits (b : Nat) (w : World) : (callFunc 24 #[.float .f64 b]).run Try.prog w = .ok (.value (.int .u64 b)) w := by kernel_rfl
theorem isNaN_calls (b : Nat) (w : World) : Calls Try.prog 23 #[.float .f64 b] w fun e w' => e = .returned (.bool (FloatKind.f64.format.order b b != some .eq)) ∧ w' = w := by
  go_enter Try.func23, Try.ntmps23
  go_wp2
  go_ret
  exact ⟨rfl, rfl⟩
theorem bitsOf_calls (b : Nat) (h : FloatKind.f64.format.order b b = some .eq) (w : World) : Calls Try.prog 21 #[.float .f64 b] w fun e w' => e = .returned (.int .i64 (wrap64 b)) ∧ w' = w := by
  have hx := float64bits
  go_enter Try.func21, Try.ntmps21
  go_wp2_with (go_at_call 23; refine (isNaN_calls _ _).mono ?_; rintro e w' ⟨rfl, he⟩; subst he)
  go_ret
  exact ⟨rfl, rfl⟩

/-- Towards zero, told by how the word stands to 2 to the 63. -/
theorem tz_nan (b : Nat) (h : FloatKind.f64.format.order b b = none) (w : World) : Calls Try.prog 22 #[.float .f64 b] w fun e w' => e = .returned (.int .i64 0) ∧ w' = w := by
  go_enter Try.func22, Try.ntmps22
  go_wp2_with (go_at_call 23; refine (isNaN_calls _ _).mono ?_; rintro e w' ⟨rfl, he⟩; subst he)
  go_ret
  exact ⟨rfl, rfl⟩
theorem tz_top (b : Nat) (h : FloatKind.f64.format.order b b = some .eq) (h1 : FloatKind.f64.format.order b 4890909195324358656 = some .gt ∨ FloatKind.f64.format.order b 4890909195324358656 = some .eq) (w : World) :
    Calls Try.prog 22 #[.float .f64 b] w fun e w' => e = .returned (.int .i64 9223372036854775807) ∧ w' = w := by
  rcases h1 with h1 | h1
  · go_enter Try.func22, Try.ntmps22
    go_wp2_with (go_at_call 23; refine (isNaN_calls _ _).mono ?_; rintro e w' ⟨rfl, he⟩; subst he)
    go_ret
    exact ⟨rfl, rfl⟩
  · go_enter Try.func22, Try.ntmps22
    go_wp2_with (go_at_call 23; refine (isNaN_calls _ _).mono ?_; rintro e w' ⟨rfl, he⟩; subst he)
    go_ret
    exact ⟨rfl, rfl⟩
theorem tz_low (b : Nat) (h : FloatKind.f64.format.order b b = some .eq) (h1 : FloatKind.f64.format.order b 4890909195324358656 = some .lt) (h2 : FloatKind.f64.format.order b 14114281232179134464 = some .lt ∨ FloatKind.f64.format.order b 14114281232179134464 = some .eq) (w : World) :
    Calls Try.prog 22 #[.float .f64 b] w fun e w' => e = .returned (.int .i64 (-9223372036854775808)) ∧ w' = w := by
  rcases h2 with h2 | h2
  · go_enter Try.func22, Try.ntmps22
    go_wp2_with (go_at_call 23; refine (isNaN_calls _ _).mono ?_; rintro e w' ⟨rfl, he⟩; subst he)
    go_ret
    exact ⟨rfl, rfl⟩
  · go_enter Try.func22, Try.ntmps22
    go_wp2_with (go_at_call 23; refine (isNaN_calls _ _).mono ?_; rintro e w' ⟨rfl, he⟩; subst he)
    go_ret
    exact ⟨rfl, rfl⟩
theorem tz_in (b : Nat) (n : Int) (h : FloatKind.f64.format.order b b = some .eq) (h1 : FloatKind.f64.format.order b 4890909195324358656 = some .lt) (h2 : FloatKind.f64.format.order b 14114281232179134464 = some .gt) (h4 : floatToIntVal .f64 b .i64 = some n) (w : World) :
    Calls Try.prog 22 #[.float .f64 b] w fun e w' => e = .returned (.int .i64 n) ∧ w' = w := by
  have h5 := fun w => run_convert_float_int (P := Try.prog) w 29 2 .f64 .i64 b n (by kernel_rfl) Try.underlying2 h4
  clear h4
  go_enter Try.func22, Try.ntmps22
  go_wp2_with (go_at_call 23; refine (isNaN_calls _ _).mono ?_; rintro e w' ⟨rfl, he⟩; subst he)
  go_ret
  exact ⟨rfl, rfl⟩

def tzVal (a : Int) : Int :=
  if isNo a then 0 else if 4890909195324358656 ≤ key a then 9223372036854775807 else if key a ≤ -4890909195324358656 then -9223372036854775808 else if a < 0 then -(truncN a : Int) else (truncN a : Int)

theorem top_word : (4890909195324358656 : Nat) = (IntKind.u64.wrap 4890909195324358656).toNat := by decide
theorem low_word : (14114281232179134464 : Nat) = (IntKind.u64.wrap (-4332462841530417152)).toNat := by decide

theorem tz_calls (a : Int) (h1 : -9223372036854775808 ≤ a) (h2 : a < 9223372036854775808) (w : World) :
    Calls Try.prog 22 #[.float .f64 (IntKind.u64.wrap a).toNat] w fun e w' => e = .returned (.int .i64 (tzVal a)) ∧ w' = w := by
  have o1 := order_bits a a h1 h2 h1 h2
  have o2 := order_bits a 4890909195324358656 h1 h2 (by decide) (by decide)
  have o3 := order_bits a (-4332462841530417152) h1 h2 (by decide) (by decide)
  rw [← top_word] at o2
  rw [← low_word] at o3
  have n2 : ¬ isNo 4890909195324358656 := by decide
  have n3 : ¬ isNo (-4332462841530417152) := by decide
  have k2 : key 4890909195324358656 = 4890909195324358656 := by decide
  have k3 : key (-4332462841530417152) = -4890909195324358656 := by decide
  unfold tzVal
  by_cases hn : isNo a
  · rw [if_pos hn]; rw [if_pos (.inl hn)] at o1; exact tz_nan _ o1 w
  rw [if_neg hn]
  rw [if_neg (by simp [hn]), compare_eq rfl] at o1
  rw [if_neg (by simp [hn, n2]), k2] at o2
  rw [if_neg (by simp [hn, n3]), k3] at o3
  by_cases ht : 4890909195324358656 ≤ key a
  · rw [if_pos ht]
    refine tz_top _ o1 ?_ w
    by_cases he : key a = 4890909195324358656
    · right; rw [o2, compare_eq he]
    · left; rw [o2, compare_gt (by omega)]
  rw [if_neg ht]
  have o2' : FloatKind.f64.format.order (IntKind.u64.wrap a).toNat 4890909195324358656 = some .lt := by rw [o2, compare_lt (by omega)]
  by_cases hl : key a ≤ -4890909195324358656
  · rw [if_pos hl]
    refine tz_low _ o1 o2' ?_ w
    by_cases he : key a = -4890909195324358656
    · right; rw [o3, compare_eq he]
    · left; rw [o3, compare_lt (by omega)]
  rw [if_neg hl]
  have o3' : FloatKind.f64.format.order (IntKind.u64.wrap a).toNat 14114281232179134464 = some .gt := by rw [o3, compare_gt (by omega)]
  have hr : rung a < 4890909195324358656 := by
    unfold key sg at ht hl
    by_cases hs : a < 0
    · simp [hs] at ht hl; omega
    · simp [hs] at ht hl; omega
  have hk : ¬ 1086 ≤ openK a := fun h => by have := (rung_big a).2 h; omega
  have hc : openC a = 0 := by unfold openC; rw [if_neg (by omega)]
  have hsmall : ¬ 9223372036854775807 < truncN a := fun h => hk ((trunc_big a hc).1 h)
  refine tz_in _ _ o1 o2' o3' ?_ w
  unfold floatToIntVal
  have hd : (FloatKind.f64.decode (IntKind.u64.wrap a).toNat).toInt .zero = some (if a < 0 then -(truncN a : Int) else (truncN a : Int)) := by
    rw [word_of a h1 h2]; exact toInt_word a hc
  rw [hd]
  have hin : IntKind.i64.min ≤ (if a < 0 then -(truncN a : Int) else (truncN a : Int)) ∧ (if a < 0 then -(truncN a : Int) else (truncN a : Int)) ≤ IntKind.i64.max := by
    simp only [IntKind.min, IntKind.max, IntKind.signed, IntKind.bits]
    simp
    split <;> omega
  simp only [if_pos hin]

theorem clamp_agree (a : Int) : min (max (tzVal a) (-2147483648)) 2147483647 = wholeVal a (-2147483648) 2147483647 := by
  have hno := class_no a
  have hb := rung_big a
  have hp := parts_in a
  have hr := rung_parts a
  unfold tzVal wholeVal
  by_cases hn : isNo a
  · rw [if_pos hn, if_pos (hno.2 hn)]; omega
  rw [if_neg hn, if_neg (fun h => hn (hno.1 h))]
  unfold isNo at hn
  by_cases hk : 1086 ≤ openK a
  · have hbig : openC a = 1 ∨ 9223372036854775807 < truncN a := by
      by_cases h1 : openC a = 1
      · exact .inl h1
      · have hc : openC a = 0 := by unfold openC at h1 ⊢; split at h1 <;> (try split at h1) <;> simp_all <;> omega
        exact .inr ((trunc_big a hc).2 hk)
    rw [if_pos hbig]
    have := hb.2 hk
    unfold key sg
    by_cases hs : a < 0
    · simp only [hs, decide_true, if_true]; rw [if_neg (by omega), if_pos (by omega)]; omega
    · simp only [hs, decide_false, if_false, Bool.false_eq_true]; rw [if_pos (by omega)]; omega
  · have hc : openC a = 0 := by unfold openC; rw [if_neg (by omega)]
    have hsm : ¬ 9223372036854775807 < truncN a := fun h => hk ((trunc_big a hc).1 h)
    rw [if_neg (show ¬ (openC a = 1 ∨ 9223372036854775807 < truncN a) by rintro (h | h); omega; exact hsm h)]
    have hlt : ¬ 4890909195324358656 ≤ rung a := fun h => hk (hb.1 h)
    unfold key sg pickW
    by_cases hs : a < 0
    · simp only [hs, decide_true, if_true]; rw [if_neg (by omega), if_neg (by omega)]; split <;> omega
    · simp only [hs, decide_false, if_false, Bool.false_eq_true]; rw [if_neg (by omega), if_neg (by omega)]; split <;> omega
theorem long_agree (a : Int) : tzVal a = wholeVal a (-9223372036854775808) 9223372036854775807 := by
  have hno := class_no a
  have hb := rung_big a
  have hp := parts_in a
  have hr := rung_parts a
  unfold tzVal wholeVal
  by_cases hn : isNo a
  · rw [if_pos hn, if_pos (hno.2 hn)]
  rw [if_neg hn, if_neg (fun h => hn (hno.1 h))]
  unfold isNo at hn
  by_cases hk : 1086 ≤ openK a
  · have hbig : openC a = 1 ∨ 9223372036854775807 < truncN a := by
      by_cases h1 : openC a = 1
      · exact .inl h1
      · have hc : openC a = 0 := by unfold openC at h1 ⊢; split at h1 <;> (try split at h1) <;> simp_all <;> omega
        exact .inr ((trunc_big a hc).2 hk)
    rw [if_pos hbig]
    have := hb.2 hk
    unfold key sg
    by_cases hs : a < 0
    · simp only [hs, decide_true, if_true]; rw [if_neg (by omega), if_pos (by omega)]
    · simp only [hs, decide_false, if_false, Bool.false_eq_true]; rw [if_pos (by omega)]
  · have hc : openC a = 0 := by unfold openC; rw [if_neg (by omega)]
    have hsm : ¬ 9223372036854775807 < truncN a := fun h => hk ((trunc_big a hc).1 h)
    rw [if_neg (show ¬ (openC a = 1 ∨ 9223372036854775807 < truncN a) by rintro (h | h); omega; exact hsm h)]
    have hlt : ¬ 4890909195324358656 ≤ rung a := fun h => hk (hb.1 h)
    unfold key sg pickW
    by_cases hs : a < 0
    · simp only [hs, decide_true, if_true]; rw [if_neg (by omega), if_neg (by omega)]; split <;> omega
    · simp only [hs, decide_false, if_false, Bool.false_eq_true]; rw [if_neg (by omega), if_neg (by omega)]; split <;> omega
end Go.Proofs.Ytgofchcbeiiieai
