/- impl.Convert at the pairs that the law on conversions asks. -/
import Derived.Test.YtgofchcbeiiieaaConv
namespace Go.Proofs.Ytgofchcbeiiieaa
open Go.ChangeShapes Go.WideShapes Go.ChangeAt Go.RowKit

def byteOf (n : Int) : Int := wrap64 (IntKind.i8.wrap n)
def charOf (n : Int) : Int := wrap64 (IntKind.u16.wrap n)
def shortOf (n : Int) : Int := wrap64 (IntKind.i16.wrap n)

theorem ci2 (n : Int) (w : World) : Calls Try.prog 21 #[.int .i64 2, .int .i64 n] w fun e w' => e = .returned (.tuple #[.int .i64 n, .bool true]) ∧ w' = w := by
  go_enter Try.func21, Try.ntmps21
  go_wp2
  go_ret2
  exact ⟨rfl, rfl⟩
theorem ci3 (n : Int) (hn : n.natAbs < 9007199254740992) (w : World) : Calls Try.prog 21 #[.int .i64 3, .int .i64 n] w fun e w' => e = .returned (.tuple #[.int .i64 (wrap64 (floatOfInt .f64 n)), .bool true]) ∧ w' = w := by
  have h1 := order_int n hn
  clear hn
  go_enter Try.func21, Try.ntmps21
  go_wp2_with (go_at_call 27; refine (bitsOf_calls _ h1 _).mono ?_; rintro e w' ⟨rfl, he⟩; subst he)
  go_ret2
  exact ⟨rfl, rfl⟩
theorem ci5 (n : Int) (w : World) : Calls Try.prog 21 #[.int .i64 5, .int .i64 n] w fun e w' => e = .returned (.tuple #[.int .i64 (byteOf n), .bool true]) ∧ w' = w := by
  go_enter Try.func21, Try.ntmps21
  go_wp2
  go_ret2
  exact ⟨rfl, rfl⟩
theorem ci6 (n : Int) (w : World) : Calls Try.prog 21 #[.int .i64 6, .int .i64 n] w fun e w' => e = .returned (.tuple #[.int .i64 (charOf n), .bool true]) ∧ w' = w := by
  go_enter Try.func21, Try.ntmps21
  go_wp2
  go_ret2
  exact ⟨rfl, rfl⟩
theorem ci7 (n : Int) (w : World) : Calls Try.prog 21 #[.int .i64 7, .int .i64 n] w fun e w' => e = .returned (.tuple #[.int .i64 (shortOf n), .bool true]) ∧ w' = w := by
  go_enter Try.func21, Try.ntmps21
  go_wp2
  go_ret2
  exact ⟨rfl, rfl⟩
theorem cf1 (n : Int) (hn : n.natAbs < 9007199254740992) (h1 : -2147483648 ≤ n) (h2 : n ≤ 2147483647) (w : World) : Calls Try.prog 23 #[.int .i64 1, .float .f64 (floatOfInt .f64 n)] w fun e w' => e = .returned (.tuple #[.int .i64 n, .bool true]) ∧ w' = w := by
  go_enter Try.func23, Try.ntmps23
  go_wp2_with (go_at_call 28; refine (towardsZero_calls _ hn _).mono ?_; rintro e w' ⟨rfl, he⟩; subst he)
  go_ret2
  exact ⟨rfl, rfl⟩

/-- What impl.Convert gives at the pairs below. -/
def convVal (f t n : Int) : Int :=
  if f = 2 then wrap32 n else if t = 2 then wrap32 n else if t = 3 then wrap64 (floatOfInt .f64 (wrap32 n)) else if t = 5 then byteOf (wrap32 n) else if t = 6 then charOf (wrap32 n) else shortOf (wrap32 n)
def pair (f t : Int) : Bool := (f == 1 && (t == 2 || t == 3 || t == 5 || t == 6 || t == 7)) || (f == 2 && t == 1)

theorem cv12 (n : Int) : convVal 1 2 n = wrap32 n := by unfold convVal; rw [if_neg (by decide), if_pos rfl]
theorem cv13 (n : Int) : convVal 1 3 n = wrap64 (floatOfInt .f64 (wrap32 n)) := by unfold convVal; rw [if_neg (by decide), if_neg (by decide), if_pos rfl]
theorem cv15 (n : Int) : convVal 1 5 n = byteOf (wrap32 n) := by unfold convVal; rw [if_neg (by decide), if_neg (by decide), if_neg (by decide), if_pos rfl]
theorem cv16 (n : Int) : convVal 1 6 n = charOf (wrap32 n) := by unfold convVal; rw [if_neg (by decide), if_neg (by decide), if_neg (by decide), if_neg (by decide), if_pos rfl]
theorem cv17 (n : Int) : convVal 1 7 n = shortOf (wrap32 n) := by unfold convVal; rw [if_neg (by decide), if_neg (by decide), if_neg (by decide), if_neg (by decide), if_neg (by decide)]
theorem cv21 (n : Int) : convVal 2 1 n = wrap32 n := by unfold convVal; rw [if_pos rfl]

theorem conv_int (t r n : Int) (h : ∀ w, Calls Try.prog 21 #[.int .i64 t, .int .i64 (wrap32 n)] w fun e w' => e = .returned (.tuple #[.int .i64 r, .bool true]) ∧ w' = w) (w : World) :
    Calls Try.prog 16 #[.int .i64 1, .int .i64 t, .int .i64 n] w fun e w' => e = .returned (.tuple #[.int .i64 r, .bool true]) ∧ w' = w := by
  go_enter Try.func16, Try.ntmps16
  go_wp2_with (first | (go_at_call 10; refine (implWrap _ _).mono ?_; rintro e w' ⟨rfl, he⟩; subst he) | (go_at_call 21; refine (h _).mono ?_; rintro e w' ⟨rfl, he⟩; subst he))
  go_ret2
  exact ⟨rfl, rfl⟩
theorem conv_long (n : Int) (w : World) :
    Calls Try.prog 16 #[.int .i64 2, .int .i64 1, .int .i64 n] w fun e w' => e = .returned (.tuple #[.int .i64 (wrap32 n), .bool true]) ∧ w' = w := by
  have hl : ∀ w, Calls Try.prog 22 #[.int .i64 1, .int .i64 n] w fun e w' => e = .returned (.tuple #[.int .i64 (wrap32 n), .bool true]) ∧ w' = w := by
    intro w
    go_enter Try.func22, Try.ntmps22
    go_wp2_with (go_at_call 10; refine (implWrap _ _).mono ?_; rintro e w' ⟨rfl, he⟩; subst he)
    go_ret2
    exact ⟨rfl, rfl⟩
  go_enter Try.func16, Try.ntmps16
  go_wp2_with (go_at_call 22; refine (hl _).mono ?_; rintro e w' ⟨rfl, he⟩; subst he)
  go_ret2
  exact ⟨rfl, rfl⟩
theorem abs32 (n : Int) : (wrap32 n).natAbs < 9007199254740992 := by have := wrap32_in n; omega

theorem convVal_calls (f t n : Int) (h : pair f t = true) (w : World) :
    Calls Try.prog 16 #[.int .i64 f, .int .i64 t, .int .i64 n] w fun e w' => e = .returned (.tuple #[.int .i64 (convVal f t n), .bool true]) ∧ w' = w := by
  have hc : (f = 1 ∧ (t = 2 ∨ t = 3 ∨ t = 5 ∨ t = 6 ∨ t = 7)) ∨ (f = 2 ∧ t = 1) := by simp [pair] at h; omega
  rcases hc with ⟨rfl, rfl | rfl | rfl | rfl | rfl⟩ | ⟨rfl, rfl⟩
  · rw [cv12]; exact conv_int 2 _ n (ci2 _) w
  · rw [cv13]; exact conv_int 3 _ n (ci3 _ (abs32 n)) w
  · rw [cv15]; exact conv_int 5 _ n (ci5 _) w
  · rw [cv16]; exact conv_int 6 _ n (ci6 _) w
  · rw [cv17]; exact conv_int 7 _ n (ci7 _) w
  · rw [cv21]; exact conv_long n w

theorem frombits (b : Nat) (h : b < 18446744073709551616) : (IntKind.u64.wrap (wrap64 b)).toNat = b := by
  simp only [IntKind.wrap, IntKind.bits, IntKind.signed]
  simp
  unfold wrap64
  omega
theorem float_lt (n : Int) : floatOfInt .f64 n < 18446744073709551616 := by
  have := (Ieee.double).write_lt (.number (decide (n < 0)) n.natAbs 0)
  exact Nat.lt_of_lt_of_eq this (by decide)

theorem conv_float (n : Int) (w : World) :
    Calls Try.prog 16 #[.int .i64 3, .int .i64 1, .int .i64 (wrap64 (floatOfInt .f64 (wrap32 n)))] w fun e w' => e = .returned (.tuple #[.int .i64 (wrap32 n), .bool true]) ∧ w' = w := by
  have hr := wrap32_in n
  have hf : ∀ w, Calls Try.prog 24 #[.int .i64 (wrap64 (floatOfInt .f64 (wrap32 n)))] w fun e w' => e = .returned (.float .f64 (floatOfInt .f64 (wrap32 n))) ∧ w' = w := by
    intro w
    have := floatOf_calls (wrap64 (floatOfInt .f64 (wrap32 n))) w
    rwa [frombits _ (float_lt _)] at this
  have hc := cf1 (wrap32 n) (abs32 n) hr.1 (by omega)
  clear hr
  go_enter Try.func16, Try.ntmps16
  go_wp2_with (first | (go_at_call 24; refine (hf _).mono ?_; rintro e w' ⟨rfl, he⟩; subst he) | (go_at_call 23; refine (hc _).mono ?_; rintro e w' ⟨rfl, he⟩; subst he))
  go_ret2
  exact ⟨rfl, rfl⟩

theorem i8_wrap (n : Int) : IntKind.i8.wrap n = (n + 128) % 256 - 128 := by
  simp only [IntKind.wrap, IntKind.bits, IntKind.signed]; simp; split <;> omega
theorem i16_wrap (n : Int) : IntKind.i16.wrap n = (n + 32768) % 65536 - 32768 := by
  simp only [IntKind.wrap, IntKind.bits, IntKind.signed]; simp; split <;> omega
theorem u16_wrap (n : Int) : IntKind.u16.wrap n = n % 65536 := by
  simp only [IntKind.wrap, IntKind.bits, IntKind.signed]; simp
theorem byte_in (n : Int) : -128 ≤ byteOf n ∧ byteOf n < 128 := by unfold byteOf wrap64; rw [i8_wrap]; omega
theorem char_in (n : Int) : 0 ≤ charOf n ∧ charOf n < 65536 := by unfold charOf wrap64; rw [u16_wrap]; omega
theorem short_in (n : Int) : -32768 ≤ shortOf n ∧ shortOf n < 32768 := by unfold shortOf wrap64; rw [i16_wrap]; omega
theorem byte_char (n : Int) : byteOf (wrap32 (charOf n)) = byteOf n := by
  unfold byteOf charOf; rw [i8_wrap, i8_wrap, u16_wrap]; unfold wrap64 wrap32; omega
theorem conv_fact1 (n : Int) : convVal 1 2 (wrap32 n) = wrap32 n := by rw [cv12, wrap32_idem]
theorem conv_fact2 (n : Int) : convVal 2 1 (wrap32 n) = wrap32 n := by rw [cv21, wrap32_idem]
theorem conv_fact3 (n : Int) : convVal 1 3 (wrap32 n) = wrap64 (floatOfInt .f64 (wrap32 n)) := by rw [cv13, wrap32_idem]
theorem conv_fact5 (n : Int) : -128 ≤ convVal 1 5 n ∧ convVal 1 5 n < 128 := by rw [cv15]; exact byte_in _
theorem conv_fact6 (n : Int) : 0 ≤ convVal 1 6 n ∧ convVal 1 6 n < 65536 := by rw [cv16]; exact char_in _
theorem conv_fact7 (n : Int) : -32768 ≤ convVal 1 7 n ∧ convVal 1 7 n < 32768 := by rw [cv17]; exact short_in _
theorem conv_fact8 (n : Int) : convVal 1 5 (convVal 1 6 n) = convVal 1 5 n := by rw [cv15, cv15, cv16]; exact byte_char _
end Go.Proofs.Ytgofchcbeiiieaa
