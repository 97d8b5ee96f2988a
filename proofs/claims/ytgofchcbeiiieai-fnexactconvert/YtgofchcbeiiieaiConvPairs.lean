/- impl.Convert and spec.Convert, pair by pair. -/
import Derived.Test.YtgofchcbeiiieaiConvBoth
namespace Go.Proofs.Ytgofchcbeiiieai
open Go.ChangeShapes Go.WideShapes Go.ChangeAt Go.RowKit

theorem and255 (n : Int) : bits .and .i64 n 255 = n % 256 := and_mask n 8 (by decide)
theorem and65535 (n : Int) : bits .and .i64 n 65535 = n % 65536 := and_mask n 16 (by decide)
theorem i8_wrap (n : Int) : IntKind.i8.wrap n = (n + 128) % 256 - 128 := by
  simp only [IntKind.wrap, IntKind.bits, IntKind.signed]; simp; split <;> omega
theorem i16_wrap (n : Int) : IntKind.i16.wrap n = (n + 32768) % 65536 - 32768 := by
  simp only [IntKind.wrap, IntKind.bits, IntKind.signed]; simp; split <;> omega
theorem u16_wrap (n : Int) : IntKind.u16.wrap n = n % 65536 := by
  simp only [IntKind.wrap, IntKind.bits, IntKind.signed]; simp

def byteVal (x : Int) : Int := (x + 128) % 256 - 128
def shortVal (x : Int) : Int := (x + 32768) % 65536 - 32768
def charVal (x : Int) : Int := x % 65536
theorem byte_impl (x : Int) : wrap64 (IntKind.i8.wrap x) = byteVal x := by rw [i8_wrap]; unfold byteVal wrap64; omega
theorem short_impl (x : Int) : wrap64 (IntKind.i16.wrap x) = shortVal x := by rw [i16_wrap]; unfold shortVal wrap64; omega
theorem char_impl (x : Int) : wrap64 (IntKind.u16.wrap x) = charVal x := by rw [u16_wrap]; unfold charVal wrap64; omega

/-- What both answer at one argument. -/
def ConvBoth (f t n : Int) (r : Int) (ok : Bool) : Prop :=
  (∀ w, Calls Try.prog 7 #[.int .i64 f, .int .i64 t, .int .i64 n] w fun e w' => e = .returned (.tuple #[.int .i64 r, .bool ok]) ∧ Kept w w') ∧
  (∀ w, Calls Try.prog 8 #[.int .i64 f, .int .i64 t, .int .i64 n] w fun e w' => e = .returned (.tuple #[.int .i64 r, .bool ok]) ∧ w' = w)

/-! impl -/
theorem ci2 (n : Int) (w : World) : Calls Try.prog 16 #[.int .i64 2, .int .i64 n] w fun e w' => e = .returned (.tuple #[.int .i64 (n), .bool true]) ∧ w' = w := by
  go_enter Try.func16, Try.ntmps16
  go_wp2
  go_ret2
  exact ⟨rfl, rfl⟩
theorem ci3 (n : Int) (w : World) : Calls Try.prog 16 #[.int .i64 3, .int .i64 n] w fun e w' => e = .returned (.tuple #[.int .i64 (floatVal n), .bool true]) ∧ w' = w := by
  have h1 := order_float n
  go_enter Try.func16, Try.ntmps16
  go_wp2_with (go_at_call 21; refine (bitsOf_calls _ h1 _).mono ?_; rintro e w' ⟨rfl, he⟩; subst he)
  go_ret2
  exact ⟨rfl, rfl⟩
theorem ci5 (n : Int) (w : World) : Calls Try.prog 16 #[.int .i64 5, .int .i64 n] w fun e w' => e = .returned (.tuple #[.int .i64 (byteVal n), .bool true]) ∧ w' = w := by
  go_enter Try.func16, Try.ntmps16
  go_wp2
  go_ret2
  exact ⟨by simp [byte_impl], rfl⟩
theorem ci6 (n : Int) (w : World) : Calls Try.prog 16 #[.int .i64 6, .int .i64 n] w fun e w' => e = .returned (.tuple #[.int .i64 (charVal n), .bool true]) ∧ w' = w := by
  go_enter Try.func16, Try.ntmps16
  go_wp2
  go_ret2
  exact ⟨by simp [char_impl], rfl⟩
theorem ci7 (n : Int) (w : World) : Calls Try.prog 16 #[.int .i64 7, .int .i64 n] w fun e w' => e = .returned (.tuple #[.int .i64 (shortVal n), .bool true]) ∧ w' = w := by
  go_enter Try.func16, Try.ntmps16
  go_wp2
  go_ret2
  exact ⟨by simp [short_impl], rfl⟩
theorem ciNone (t n : Int) (h2 : (t == 2) = false) (h3 : (t == 3) = false) (h5 : (t == 5) = false) (h6 : (t == 6) = false) (h7 : (t == 7) = false) (w : World) : Calls Try.prog 16 #[.int .i64 t, .int .i64 n] w fun e w' => e = .returned (.tuple #[.int .i64 0, .bool false]) ∧ w' = w := by
  go_enter Try.func16, Try.ntmps16
  go_wp2
  go_ret2
  exact ⟨rfl, rfl⟩
theorem cl1 (n : Int) (w : World) : Calls Try.prog 18 #[.int .i64 1, .int .i64 n] w fun e w' => e = .returned (.tuple #[.int .i64 (wrap32 n), .bool true]) ∧ w' = w := by
  go_enter Try.func18, Try.ntmps18
  go_wp2_with (go_at_call 17; refine (implWrap _ _).mono ?_; rintro e w' ⟨rfl, he⟩; subst he)
  go_ret2
  exact ⟨rfl, rfl⟩
theorem cl3 (n : Int) (w : World) : Calls Try.prog 18 #[.int .i64 3, .int .i64 n] w fun e w' => e = .returned (.tuple #[.int .i64 (floatVal n), .bool true]) ∧ w' = w := by
  have h1 := order_float n
  go_enter Try.func18, Try.ntmps18
  go_wp2_with (go_at_call 21; refine (bitsOf_calls _ h1 _).mono ?_; rintro e w' ⟨rfl, he⟩; subst he)
  go_ret2
  exact ⟨rfl, rfl⟩
theorem clNone (t n : Int) (h1 : (t == 1) = false) (h3 : (t == 3) = false) (w : World) : Calls Try.prog 18 #[.int .i64 t, .int .i64 n] w fun e w' => e = .returned (.tuple #[.int .i64 0, .bool false]) ∧ w' = w := by
  go_enter Try.func18, Try.ntmps18
  go_wp2
  go_ret2
  exact ⟨rfl, rfl⟩
theorem cf1 (b : Nat) (z : Int) (hz : ∀ w, Calls Try.prog 22 #[.float .f64 b] w fun e w' => e = .returned (.int .i64 z) ∧ w' = w) (w : World) : Calls Try.prog 19 #[.int .i64 1, .float .f64 b] w fun e w' => e = .returned (.tuple #[.int .i64 (min (max z (-2147483648)) 2147483647), .bool true]) ∧ w' = w := by
  go_enter Try.func19, Try.ntmps19
  go_wp2_with (go_at_call 22; refine (hz _).mono ?_; rintro e w' ⟨rfl, he⟩; subst he)
  all_goals go_ret2
  all_goals exact ⟨by first | rfl | (simp; omega), rfl⟩
theorem cf2 (b : Nat) (z : Int) (hz : ∀ w, Calls Try.prog 22 #[.float .f64 b] w fun e w' => e = .returned (.int .i64 z) ∧ w' = w) (w : World) : Calls Try.prog 19 #[.int .i64 2, .float .f64 b] w fun e w' => e = .returned (.tuple #[.int .i64 z, .bool true]) ∧ w' = w := by
  go_enter Try.func19, Try.ntmps19
  go_wp2_with (go_at_call 22; refine (hz _).mono ?_; rintro e w' ⟨rfl, he⟩; subst he)
  go_ret2
  exact ⟨rfl, rfl⟩
theorem cfNone (t : Int) (b : Nat) (h1 : (t == 1) = false) (h3 : (t == 2) = false) (w : World) : Calls Try.prog 19 #[.int .i64 t, .float .f64 b] w fun e w' => e = .returned (.tuple #[.int .i64 0, .bool false]) ∧ w' = w := by
  go_enter Try.func19, Try.ntmps19
  go_wp2
  go_ret2
  exact ⟨rfl, rfl⟩
theorem conv1 (t n r : Int) (ok : Bool) (h : ∀ w, Calls Try.prog 16 #[.int .i64 t, .int .i64 (wrap32 n)] w fun e w' => e = .returned (.tuple #[.int .i64 r, .bool ok]) ∧ w' = w) (w : World) :
    Calls Try.prog 8 #[.int .i64 1, .int .i64 t, .int .i64 n] w fun e w' => e = .returned (.tuple #[.int .i64 r, .bool ok]) ∧ w' = w := by
  go_enter Try.func8, Try.ntmps8
  go_wp2_with (first | (go_at_call 17; refine (implWrap _ _).mono ?_; rintro e w' ⟨rfl, he⟩; subst he) | (go_at_call 16; refine (h _).mono ?_; rintro e w' ⟨rfl, he⟩; subst he))
  go_ret2
  exact ⟨rfl, rfl⟩
theorem conv2 (t n r : Int) (ok : Bool) (h : ∀ w, Calls Try.prog 18 #[.int .i64 t, .int .i64 n] w fun e w' => e = .returned (.tuple #[.int .i64 r, .bool ok]) ∧ w' = w) (w : World) :
    Calls Try.prog 8 #[.int .i64 2, .int .i64 t, .int .i64 n] w fun e w' => e = .returned (.tuple #[.int .i64 r, .bool ok]) ∧ w' = w := by
  go_enter Try.func8, Try.ntmps8
  go_wp2_with (go_at_call 18; refine (h _).mono ?_; rintro e w' ⟨rfl, he⟩; subst he)
  go_ret2
  exact ⟨rfl, rfl⟩
theorem float64frombits (n : Int) (w : World) : (callFunc 20 #[.int .u64 n]).run Try.prog w = .ok (.value (.float .f64 n.toNat)) w := by kernel_rfl
theorem floatOf_calls (n : Int) (w : World) : Calls Try.prog 10 #[.int .i64 n] w fun e w' => e = .returned (.float .f64 (IntKind.u64.wrap n).toNat) ∧ w' = w := by
  have hx := float64frombits
  go_enter Try.func10, Try.ntmps10
  go_wp2
  go_ret
  exact ⟨rfl, rfl⟩
theorem conv3 (t n r : Int) (b : Nat) (ok : Bool) (hb : ∀ w, Calls Try.prog 10 #[.int .i64 n] w fun e w' => e = .returned (.float .f64 b) ∧ w' = w) (h : ∀ w, Calls Try.prog 19 #[.int .i64 t, .float .f64 b] w fun e w' => e = .returned (.tuple #[.int .i64 r, .bool ok]) ∧ w' = w) (w : World) :
    Calls Try.prog 8 #[.int .i64 3, .int .i64 t, .int .i64 n] w fun e w' => e = .returned (.tuple #[.int .i64 r, .bool ok]) ∧ w' = w := by
  go_enter Try.func8, Try.ntmps8
  go_wp2_with (first | (go_at_call 10; refine (hb _).mono ?_; rintro e w' ⟨rfl, he⟩; subst he) | (go_at_call 19; refine (h _).mono ?_; rintro e w' ⟨rfl, he⟩; subst he))
  go_ret2
  exact ⟨rfl, rfl⟩
theorem convNone (f t n : Int) (h1 : (f == 1) = false) (h2 : (f == 2) = false) (h3 : (f == 3) = false) (w : World) :
    Calls Try.prog 8 #[.int .i64 f, .int .i64 t, .int .i64 n] w fun e w' => e = .returned (.tuple #[.int .i64 0, .bool false]) ∧ w' = w := by
  go_enter Try.func8, Try.ntmps8
  go_wp2
  go_ret2
  exact ⟨rfl, rfl⟩

/-! spec -/
theorem spSame (f n : Int) (w : World) :
    Calls Try.prog 7 #[.int .i64 f, .int .i64 f, .int .i64 n] w fun e w' => e = .returned (.tuple #[.int .i64 0, .bool false]) ∧ Kept w w' := by
  go_enter Try.func7, Try.ntmps7
  go_wp2
  all_goals go_ret2
  all_goals exact ⟨rfl, Kept.refl _⟩
theorem sp12 (n : Int) (w : World) :
    Calls Try.prog 7 #[.int .i64 1, .int .i64 2, .int .i64 n] w fun e w' => e = .returned (.tuple #[.int .i64 (wrap32 n), .bool true]) ∧ Kept w w' := by
  go_enter Try.func7, Try.ntmps7
  go_wp2_with (first | (go_at_call 11; refine (specWrap _ _).mono ?_; rintro e w' ⟨rfl, he⟩; subst he))
  all_goals go_ret2
  all_goals exact ⟨rfl, Kept.refl _⟩
theorem sp15 (n : Int) (w : World) :
    Calls Try.prog 7 #[.int .i64 1, .int .i64 5, .int .i64 n] w fun e w' => e = .returned (.tuple #[.int .i64 (byteVal (wrap32 n)), .bool true]) ∧ Kept w w' := by
  have hr := wrap32_in n
  have hb1 : -2147483648 ≤ wrap32 n := hr.1
  have hb2 : wrap32 n < 2147483648 := hr.2
  clear hr
  have ha := and255
  go_enter Try.func7, Try.ntmps7
  go_wp2_with (first | (go_at_call 11; refine (specWrap _ _).mono ?_; rintro e w' ⟨rfl, he⟩; subst he))
  all_goals go_ret2
  all_goals exact ⟨rfl, Kept.refl _⟩
theorem sp16 (n : Int) (w : World) :
    Calls Try.prog 7 #[.int .i64 1, .int .i64 6, .int .i64 n] w fun e w' => e = .returned (.tuple #[.int .i64 (charVal (wrap32 n)), .bool true]) ∧ Kept w w' := by
  have hr := wrap32_in n
  have hb1 : -2147483648 ≤ wrap32 n := hr.1
  have hb2 : wrap32 n < 2147483648 := hr.2
  clear hr
  have ha := and65535
  go_enter Try.func7, Try.ntmps7
  go_wp2_with (first | (go_at_call 11; refine (specWrap _ _).mono ?_; rintro e w' ⟨rfl, he⟩; subst he))
  all_goals go_ret2
  all_goals exact ⟨rfl, Kept.refl _⟩
theorem sp17 (n : Int) (w : World) :
    Calls Try.prog 7 #[.int .i64 1, .int .i64 7, .int .i64 n] w fun e w' => e = .returned (.tuple #[.int .i64 (shortVal (wrap32 n)), .bool true]) ∧ Kept w w' := by
  have hr := wrap32_in n
  have hb1 : -2147483648 ≤ wrap32 n := hr.1
  have hb2 : wrap32 n < 2147483648 := hr.2
  clear hr
  have ha := and65535
  go_enter Try.func7, Try.ntmps7
  go_wp2_with (first | (go_at_call 11; refine (specWrap _ _).mono ?_; rintro e w' ⟨rfl, he⟩; subst he))
  all_goals go_ret2
  all_goals exact ⟨rfl, Kept.refl _⟩
theorem sp21 (n : Int) (w : World) :
    Calls Try.prog 7 #[.int .i64 2, .int .i64 1, .int .i64 n] w fun e w' => e = .returned (.tuple #[.int .i64 (wrap32 n), .bool true]) ∧ Kept w w' := by
  go_enter Try.func7, Try.ntmps7
  go_wp2_with (first | (go_at_call 11; refine (specWrap _ _).mono ?_; rintro e w' ⟨rfl, he⟩; subst he))
  all_goals go_ret2
  all_goals exact ⟨rfl, Kept.refl _⟩
theorem sp1None (t n : Int) (h2 : (t == 2) = false) (h5 : (t == 5) = false) (h6 : (t == 6) = false) (h7 : (t == 7) = false) (g1 : ((1 : Int) == t) = false) (g3 : (t != 3) = true) (w : World) :
    Calls Try.prog 7 #[.int .i64 1, .int .i64 t, .int .i64 n] w fun e w' => e = .returned (.tuple #[.int .i64 (0), .bool false]) ∧ Kept w w' := by
  go_enter Try.func7, Try.ntmps7
  go_wp2_with (first | (go_at_call 11; refine (specWrap _ _).mono ?_; rintro e w' ⟨rfl, he⟩; subst he))
  all_goals go_ret2
  all_goals exact ⟨rfl, Kept.refl _⟩
theorem sp2None (t n : Int) (h1 : (t == 1) = false) (g2 : ((2 : Int) == t) = false) (g3 : (t != 3) = true) (w : World) :
    Calls Try.prog 7 #[.int .i64 2, .int .i64 t, .int .i64 n] w fun e w' => e = .returned (.tuple #[.int .i64 (0), .bool false]) ∧ Kept w w' := by
  go_enter Try.func7, Try.ntmps7
  go_wp2_with (first | (go_at_call 11; refine (specWrap _ _).mono ?_; rintro e w' ⟨rfl, he⟩; subst he))
  all_goals go_ret2
  all_goals exact ⟨rfl, Kept.refl _⟩
theorem sp3None (t n : Int) (h1 : (t == 1) = false) (h2 : (t == 2) = false) (g3 : ((3 : Int) == t) = false) (w : World) :
    Calls Try.prog 7 #[.int .i64 3, .int .i64 t, .int .i64 n] w fun e w' => e = .returned (.tuple #[.int .i64 (0), .bool false]) ∧ Kept w w' := by
  go_enter Try.func7, Try.ntmps7
  go_wp2_with (first | (go_at_call 11; refine (specWrap _ _).mono ?_; rintro e w' ⟨rfl, he⟩; subst he))
  all_goals go_ret2
  all_goals exact ⟨rfl, Kept.refl _⟩
theorem spNone (f t n : Int) (h1 : (f == 1) = false) (h2 : (f == 2) = false) (h3 : (f == 3) = false) (w : World) :
    Calls Try.prog 7 #[.int .i64 f, .int .i64 t, .int .i64 n] w fun e w' => e = .returned (.tuple #[.int .i64 0, .bool false]) ∧ Kept w w' := by
  cases h : (f == t)
  · go_enter Try.func7, Try.ntmps7
    go_wp2
    all_goals go_ret2
    all_goals exact ⟨rfl, Kept.refl _⟩
  · go_enter Try.func7, Try.ntmps7
    go_wp2
    all_goals go_ret2
    all_goals exact ⟨rfl, Kept.refl _⟩
theorem sp31 (n : Int) (w : World) :
    Calls Try.prog 7 #[.int .i64 3, .int .i64 1, .int .i64 n] w fun e w' => e = .returned (.tuple #[.int .i64 (wholeVal n (-2147483648) 2147483647), .bool true]) ∧ Kept w w' := by
  go_enter Try.func7, Try.ntmps7
  go_wp2_with (first | (go_at_call 12; refine (whole_calls _ _ _ _).mono ?_; rintro e w' ⟨rfl, hg⟩))
  all_goals go_ret2
  all_goals exact ⟨rfl, kept_grown (by assumption)⟩
theorem sp32 (n : Int) (w : World) :
    Calls Try.prog 7 #[.int .i64 3, .int .i64 2, .int .i64 n] w fun e w' => e = .returned (.tuple #[.int .i64 (wholeVal n (-9223372036854775808) 9223372036854775807), .bool true]) ∧ Kept w w' := by
  go_enter Try.func7, Try.ntmps7
  go_wp2_with (first | (go_at_call 12; refine (whole_calls _ _ _ _).mono ?_; rintro e w' ⟨rfl, hg⟩))
  all_goals go_ret2
  all_goals exact ⟨rfl, kept_grown (by assumption)⟩
end Go.Proofs.Ytgofchcbeiiieai
