import Derived.Test.YtjjccimeikkogaaGreatDoorInsA
import Derived.Test.YtjjccimeikkogaaGreatDoorNum
import Derived.WalkSmall
import Derived.Test.YtjjccimeikkogaaGreatDoorShelf2
set_option maxRecDepth 1000000
set_option maxHeartbeats 1000000
namespace Go.Proofs.YtjjccimeikkogaaGreatDoor
set_option linter.unusedVariables false
open Go.ChangeShapes Go.WideShapes Go.ChangeAt Go.RowKit
theorem below2 (w : World) (o1 o2 : Obj) : Below w.heap.size w ((w.alloc o1).alloc o2) := ((Below.refl _ _).alloc (Nat.le_refl _) _).alloc (by simp) _
theorem below2n (w : World) (o1 o2 : Obj) (n : Nat) : Below w.heap.size w (((w.alloc o1).alloc o2).drewN n) := below_drewN (below2 w o1 o2) n
theorem below1 (w : World) (o1 : Obj) : Below w.heap.size w (w.alloc o1) := (Below.refl _ _).alloc (Nat.le_refl _) _
theorem below_below {w W w' : World} (h : Below w.heap.size w W) (h2 : Below W.heap.size W w') : Below w.heap.size w w' := h.trans (h2.mono h.size)
def jumpB (o b size : Int) (zs : List Int) : Bool :=
 if o = 26 ∨ o = 27 then betw b 1 6 else if o = 28 ∨ o = 29 then betw b 1 2 else if o = 30 then (b == wrap32 b) && betw zs.length 1 100 && !(zs.any fun z => !wthn z size) else true
theorem jump30_calls (k a b size : Int) (T C N Y : ByteArray) (v : Value) (zs : List Int) (w : World) (ht : Tab w v zs) (hz : zs.length ≤ 1048576) :
  Calls Tryz.prog 239 #[insV 30 k a b T C N Y v, .int .i64 size] w fun e w' => e = .returned (.bool ((b == wrap32 b) && betw zs.length 1 100 && !(zs.any fun z => !wthn z size))) ∧ Below w.heap.size w w' := by
 obtain ⟨ta, c, rfl⟩ := ht.form
 have hmf : ∀ (fn : Fn) (first cap : Array Value) (w : World), (Instr.makeFunc fn first cap).run Tryz.prog w = .ok (.func fn first cap) w := fun _ _ _ _ => rfl
 have wrapH : Hid (∀ w, Calls Tryz.prog 248 #[.int .i64 b] w fun e w' => e = .returned (.int .i64 (wrap32 b)) ∧ w' = w) := fun w => implWrap_calls b w
 have betH : Hid (∀ w, Calls Tryz.prog 181 #[.int .i64 zs.length, .int .i64 1, .int .i64 100] w fun e w' => e = .returned (.bool (betw zs.length 1 100)) ∧ w' = w) := fun w => between_calls _ _ _ w
 have conH : Hid (∀ W : World, W.cell? ⟨w.heap.size + 1, 0, none⟩ = some (.int .i64 size) → Below w.heap.size w W → Calls Tryz.prog 255 #[.slice ta zs.length c, .func (.func 254) #[] #[.pointer (some ⟨w.heap.size + 1, 0, none⟩)]] W fun e w' => e = .returned (.bool (zs.any fun z => !wthn z size)) ∧ w' = W) :=
  fun W hc hb => contains_calls _ zs size _ W hc (ht.kept hb) hz
 clear ht
 generalize (zs.any fun z => !wthn z size) = x at *
 generalize betw zs.length 1 100 = y at *
 generalize wrap32 b = u at *
 generalize zs.length = n at *
 cases hb : (b == u) with
 | false =>
  go_enter Tryz.func239, Tryz.ntmps239
  go_wp2
  go_quiet (first | (go_at_call 248; exact Calls.quiet_of_same (wrapH.out _)) | (go_at_call 181; exact Calls.quiet_of_same (betH.out _)))
  go_wp2
  go_ret
  exact ⟨rfl, below2n _ _ _ _⟩
 | true =>
  cases y with
  | false =>
   go_enter Tryz.func239, Tryz.ntmps239
   go_wp2
   go_quiet (first | (go_at_call 248; exact Calls.quiet_of_same (wrapH.out _)) | (go_at_call 181; exact Calls.quiet_of_same (betH.out _)))
   go_wp2
   go_ret
   exact ⟨rfl, below2n _ _ _ _⟩
  | true =>
   go_enter Tryz.func239, Tryz.ntmps239
   go_wp2
   go_quiet (first | (go_at_call 248; exact Calls.quiet_of_same (wrapH.out _)) | (go_at_call 181; exact Calls.quiet_of_same (betH.out _)) | (go_at_call 255; exact Calls.quiet_of_same (conH.out _ (by simp) (below2n _ _ _ _))))
   go_wp2
   go_ret
   exact ⟨rfl, below2n _ _ _ _⟩
theorem jumpOk_calls (o k a b size : Int) (T C N Y : ByteArray) (v : Value) (zs : List Int) (w : World) (ht : Tab w v zs) (hz : zs.length ≤ 1048576) :
  Calls Tryz.prog 239 #[insV o k a b T C N Y v, .int .i64 size] w fun e w' => e = .returned (.bool (jumpB o b size zs)) ∧ Below w.heap.size w w' := by
 by_cases h30 : o = 30
 ·subst h30; exact jump30_calls k a b size T C N Y v zs w ht hz
 have h30' : (o == 30) = false := by simpa using h30
 obtain ⟨r, hr⟩ : ∃ r, jumpB o b size zs = r := ⟨_, rfl⟩
 rw [hr]
 have hrH : Hid (jumpB o b size zs = r) := hr
 clear hr ht
 go_enter Tryz.func239, Tryz.ntmps239
 go_wp2_with (go_at_call 181; refine (between_calls _ _ _ _).mono ?_; rintro e w' ⟨rfl, he⟩; subst he)
 all_goals (
  go_ret
  refine ⟨?_, below2 _ _ _⟩
  go_light
  rw [← hrH.out]
  first
   | (rename_i h; have e := eq_of_beq h; subst e; rfl)
   | (simp only [beq_eq_false_iff_ne, ne_eq] at *
      unfold jumpB
      rw [if_neg (by omega), if_neg (by omega), if_neg (by omega)]
      rfl))
theorem float64bits (b : Nat) (w : World) : (callFunc 262 #[.float .f64 b]).run Tryz.prog w = .ok (.value (.int .u64 b)) w := by kernel_rfl
theorem float64frombits (n : Int) (w : World) : (callFunc 263 #[.int .u64 n]).run Tryz.prog w = .ok (.value (.float .f64 n.toNat)) w := by kernel_rfl
theorem floatOf_calls (n : Int) (w : World) : Calls Tryz.prog 250 #[.int .i64 n] w fun e w' => e = .returned (.float .f64 (IntKind.u64.wrap n).toNat) ∧ w' = w := by
 have hx := float64frombits
 go_enter Tryz.func250, Tryz.ntmps250
 go_wp2
 go_ret
 exact ⟨rfl, rfl⟩
theorem isNaN_calls (b : Nat) (w : World) : Calls Tryz.prog 261 #[.float .f64 b] w fun e w' => e = .returned (.bool (FloatKind.f64.format.order b b != some .eq)) ∧ w' = w := by
 go_enter Tryz.func261, Tryz.ntmps261
 go_wp2
 go_ret
 exact ⟨rfl, rfl⟩
theorem bitsOf_num (b : Nat) (h : FloatKind.f64.format.order b b = some .eq) (w : World) : Calls Tryz.prog 249 #[.float .f64 b] w fun e w' => e = .returned (.int .i64 (wrap64 b)) ∧ w' = w := by
 have hx := float64bits
 go_enter Tryz.func249, Tryz.ntmps249
 go_wp2_with (go_at_call 261; refine (isNaN_calls _ _).mono ?_; rintro e w' ⟨rfl, he⟩; subst he)
 go_ret
 exact ⟨rfl, rfl⟩
theorem bitsOf_nan (b : Nat) (h : FloatKind.f64.format.order b b = none) (w : World) : Calls Tryz.prog 249 #[.float .f64 b] w fun e w' => e = .returned (.int .i64 9221120237041090560) ∧ w' = w := by
 have hx := float64bits
 go_enter Tryz.func249, Tryz.ntmps249
 go_wp2_with (go_at_call 261; refine (isNaN_calls _ _).mono ?_; rintro e w' ⟨rfl, he⟩; subst he)
 go_ret
 exact ⟨rfl, rfl⟩
def fltOk (a : Int) : Bool := decide (openC a < 2) || a == 9221120237041090560
def constB (k a : Int) : Bool := if k = 1 then a == wrap32 a else if k = 2 then true else if k = 3 then fltOk a else false
theorem wrap_back (a : Int) (h1 : -9223372036854775808 ≤ a) (h2 : a < 9223372036854775808) : wrap64 ((IntKind.u64.wrap a).toNat : Int) = a := by
 have e : IntKind.u64.wrap a = a % 18446744073709551616 := by
  simp only [IntKind.wrap, IntKind.bits, IntKind.signed]; simp
 rw [e]; unfold wrap64; omega
theorem constFloat_calls (a : Int) (w : World) (h1 : -9223372036854775808 ≤ a) (h2 : a < 9223372036854775808) : Calls Tryz.prog 237 #[.int .i64 3, .int .i64 a] w fun e w' => e = .returned (.bool (fltOk a)) ∧ w' = w := by
 have ho := order_bits a a h1 h2 h1 h2
 have floatH : Hid (∀ w, Calls Tryz.prog 250 #[.int .i64 a] w fun e w' => e = .returned (.float .f64 (IntKind.u64.wrap a).toNat) ∧ w' = w) := fun w => floatOf_calls a w
 have hwb := wrap_back a h1 h2
 by_cases hn : isNo a
 ·rw [if_pos (.inl hn)] at ho
  have bitsH : Hid (∀ w, Calls Tryz.prog 249 #[.float .f64 (IntKind.u64.wrap a).toNat] w fun e w' => e = .returned (.int .i64 9221120237041090560) ∧ w' = w) := fun w => bitsOf_nan _ ho w
  have hc : openC a = 2 := (class_no a).2 hn
  have hr : fltOk a = (a == 9221120237041090560) := by unfold fltOk; rw [hc]; rfl
  rw [hr]
  clear ho hwb hn hc hr
  generalize (IntKind.u64.wrap a).toNat = f at *
  go_enter Tryz.func237, Tryz.ntmps237
  go_wp2_with (first | (go_at_call 250; refine (floatH.out _).mono ?_; rintro e w' ⟨rfl, he⟩; subst he) | (go_at_call 249; refine (bitsH.out _).mono ?_; rintro e w' ⟨rfl, he⟩; subst he))
  go_ret
  exact ⟨rfl, rfl⟩
 ·rw [if_neg (by rintro (h | h) <;> exact hn h), compare_eq rfl] at ho
  have bitsH : Hid (∀ w, Calls Tryz.prog 249 #[.float .f64 (IntKind.u64.wrap a).toNat] w fun e w' => e = .returned (.int .i64 a) ∧ w' = w) := fun w => by
   have := bitsOf_num _ ho w
   rwa [hwb] at this
  have hc : ¬ openC a = 2 := fun h => hn ((class_no a).1 h)
  have hr : fltOk a = true := by
   have : openC a < 2 := by unfold openC at hc ⊢; split at hc <;> (try split at hc) <;> simp_all
   unfold fltOk; simp [this]
  rw [hr]
  clear ho hwb hn hc hr
  generalize (IntKind.u64.wrap a).toNat = f at *
  go_enter Tryz.func237, Tryz.ntmps237
  go_wp2_with (first | (go_at_call 250; refine (floatH.out _).mono ?_; rintro e w' ⟨rfl, he⟩; subst he) | (go_at_call 249; refine (bitsH.out _).mono ?_; rintro e w' ⟨rfl, he⟩; subst he))
  go_ret
  exact ⟨by simp, rfl⟩
theorem constOk_calls (k a : Int) (w : World) (h1 : -9223372036854775808 ≤ a) (h2 : a < 9223372036854775808) : Calls Tryz.prog 237 #[.int .i64 k, .int .i64 a] w fun e w' => e = .returned (.bool (constB k a)) ∧ w' = w := by
 by_cases k3 : k = 3
 ·subst k3; exact constFloat_calls a w h1 h2
 by_cases k1 : k = 1
 ·subst k1
  show Calls Tryz.prog 237 #[.int .i64 1, .int .i64 a] w fun e w' => e = .returned (.bool (a == wrap32 a)) ∧ w' = w
  clear k3
  go_enter Tryz.func237, Tryz.ntmps237
  go_wp2_with (go_at_call 248; refine (implWrap_calls _ _).mono ?_; rintro e w' ⟨rfl, he⟩; subst he)
  go_ret
  exact ⟨rfl, rfl⟩
 have k3' : (k == 3) = false := by simpa using k3
 have k1' : (k == 1) = false := by simpa using k1
 obtain ⟨r, hr⟩ : ∃ r, constB k a = r := ⟨_, rfl⟩
 rw [hr]
 have hrH : Hid (constB k a = r) := hr
 clear hr k3 k1
 go_enter Tryz.func237, Tryz.ntmps237
 go_wp2
 all_goals (
  go_ret
  refine ⟨?_, rfl⟩
  go_light
  rw [← hrH.out]
  first
   | (rename_i h; have e := eq_of_beq h; subst e; rfl)
   | (simp only [beq_eq_false_iff_ne, ne_eq] at *
      unfold constB
      rw [if_neg (by omega), if_neg (by omega), if_neg (by omega)]
      rfl))
def convB (k t : Int) : Bool :=
 if k = 1 then t == 2 || t == 3 || t == 5 || t == 6 || t == 7 else if k = 2 then t == 1 || t == 3 else if k = 3 then t == 1 || t == 2 else false
theorem order0 : FloatKind.f64.format.order (floatOfInt .f64 0) (floatOfInt .f64 0) = some .eq := by kernel_rfl
theorem bits0_calls (w : World) : Calls Tryz.prog 249 #[.float .f64 (floatOfInt .f64 0)] w fun e w' => e = .returned (.int .i64 (wrap64 (floatOfInt .f64 0 : Nat))) ∧ w' = w := bitsOf_num _ order0 w
def Pair (ok : Bool) (w : World) (e : Ending) (w' : World) : Prop := (∃ x, e = .returned (.tuple #[.int .i64 x, .bool ok])) ∧ w' = w
theorem convInt_calls (t : Int) (w : World) : Calls Tryz.prog 251 #[.int .i64 t, .int .i64 0] w (Pair (convB 1 t) w) := by
 unfold Pair
 by_cases t3 : t = 3
 ·subst t3
  go_enter Tryz.func251, Tryz.ntmps251
  go_wp2_with (go_at_call 249; refine (bits0_calls _).mono ?_; rintro e w' ⟨rfl, he⟩; subst he)
  go_ret2
  exact ⟨⟨_, rfl⟩, rfl⟩
 have t3' : (t == 3) = false := by simpa using t3
 obtain ⟨r, hr⟩ : ∃ r, convB 1 t = r := ⟨_, rfl⟩
 rw [hr]
 have hrH : Hid (convB 1 t = r) := hr
 clear hr t3
 go_enter Tryz.func251, Tryz.ntmps251
 go_wp2
 all_goals (
  go_ret2
  refine ⟨?_, rfl⟩
  go_light
  rw [← hrH.out]
  first
   | (rename_i h; have e := eq_of_beq h; subst e; exact ⟨_, rfl⟩)
   | (have hr : convB 1 t = false := by simp_all [convB]
      rw [hr]
      exact ⟨_, rfl⟩))
theorem convLong_calls (t : Int) (w : World) : Calls Tryz.prog 252 #[.int .i64 t, .int .i64 0] w (Pair (convB 2 t) w) := by
 unfold Pair
 by_cases t3 : t = 3
 ·subst t3
  go_enter Tryz.func252, Tryz.ntmps252
  go_wp2_with (go_at_call 249; refine (bits0_calls _).mono ?_; rintro e w' ⟨rfl, he⟩; subst he)
  go_ret2
  exact ⟨⟨_, rfl⟩, rfl⟩
 by_cases t1 : t = 1
 ·subst t1
  clear t3
  go_enter Tryz.func252, Tryz.ntmps252
  go_wp2_with (go_at_call 248; refine (implWrap_calls _ _).mono ?_; rintro e w' ⟨rfl, he⟩; subst he)
  go_ret2
  exact ⟨⟨_, rfl⟩, rfl⟩
 have t3' : (t == 3) = false := by simpa using t3
 have t1' : (t == 1) = false := by simpa using t1
 have hr : convB 2 t = false := by simp [convB, t3', t1']
 rw [hr]
 clear hr t3 t1
 go_enter Tryz.func252, Tryz.ntmps252
 go_wp2
 go_ret2
 exact ⟨⟨_, rfl⟩, rfl⟩
theorem tz_in (b : Nat) (n : Int) (h : FloatKind.f64.format.order b b = some .eq) (h1 : FloatKind.f64.format.order b 4890909195324358656 = some .lt) (h2 : FloatKind.f64.format.order b 14114281232179134464 = some .gt) (h4 : floatToIntVal .f64 b .i64 = some n) (w : World) :
  Calls Tryz.prog 264 #[.float .f64 b] w fun e w' => e = .returned (.int .i64 n) ∧ w' = w := by
 have h5 := fun w => run_convert_float_int (P := Tryz.prog) w 243 2 .f64 .i64 b n (by kernel_rfl) Tryz.underlying2 h4
 clear h4
 go_enter Tryz.func264, Tryz.ntmps264
 go_wp2_with (go_at_call 261; refine (isNaN_calls _ _).mono ?_; rintro e w' ⟨rfl, he⟩; subst he)
 go_ret
 exact ⟨rfl, rfl⟩
theorem tz0_calls (w : World) : Calls Tryz.prog 264 #[.float .f64 0] w fun e w' => e = .returned (.int .i64 0) ∧ w' = w :=
 tz_in 0 0 (by kernel_rfl) (by kernel_rfl) (by kernel_rfl) (by kernel_rfl) w
theorem convFloat_calls (t : Int) (w : World) : Calls Tryz.prog 253 #[.int .i64 t, .float .f64 0] w (Pair (convB 3 t) w) := by
 unfold Pair
 by_cases t2 : t = 2
 ·subst t2
  go_enter Tryz.func253, Tryz.ntmps253
  go_wp2_with (go_at_call 264; refine (tz0_calls _).mono ?_; rintro e w' ⟨rfl, he⟩; subst he)
  go_ret2
  exact ⟨⟨_, rfl⟩, rfl⟩
 by_cases t1 : t = 1
 ·subst t1
  clear t2
  go_enter Tryz.func253, Tryz.ntmps253
  go_wp2_with (go_at_call 264; refine (tz0_calls _).mono ?_; rintro e w' ⟨rfl, he⟩; subst he)
  go_ret2
  exact ⟨⟨_, rfl⟩, rfl⟩
 have t2' : (t == 2) = false := by simpa using t2
 have t1' : (t == 1) = false := by simpa using t1
 have hr : convB 3 t = false := by simp [convB, t2', t1']
 rw [hr]
 clear hr t2 t1
 go_enter Tryz.func253, Tryz.ntmps253
 go_wp2
 go_ret2
 exact ⟨⟨_, rfl⟩, rfl⟩
theorem floatOf0_calls (w : World) : Calls Tryz.prog 250 #[.int .i64 0] w fun e w' => e = .returned (.float .f64 0) ∧ w' = w := floatOf_calls 0 w
theorem wrap0_calls (w : World) : Calls Tryz.prog 248 #[.int .i64 0] w fun e w' => e = .returned (.int .i64 0) ∧ w' = w := by
 have h := implWrap_calls 0 w
 rwa [show wrap32 0 = 0 from by unfold wrap32; rfl] at h
theorem conv_calls (k t : Int) (w : World) : Calls Tryz.prog 238 #[.int .i64 k, .int .i64 t, .int .i64 0] w (Pair (convB k t) w) := by
 unfold Pair
 by_cases k1 : k = 1
 ·subst k1
  have hi : Hid (∀ w, Calls Tryz.prog 251 #[.int .i64 t, .int .i64 0] w (Pair (convB 1 t) w)) := fun w => convInt_calls t w
  generalize convB 1 t = r at *
  go_enter Tryz.func238, Tryz.ntmps238
  go_wp2_with (first | (go_at_call 248; refine (wrap0_calls _).mono ?_; rintro e w' ⟨rfl, he⟩; subst he) | (go_at_call 251; refine (hi.out _).mono ?_; rintro e w' ⟨⟨x, rfl⟩, he⟩; subst he))
  go_ret2
  exact ⟨⟨_, rfl⟩, rfl⟩
 by_cases k2 : k = 2
 ·subst k2
  clear k1
  have hi : Hid (∀ w, Calls Tryz.prog 252 #[.int .i64 t, .int .i64 0] w (Pair (convB 2 t) w)) := fun w => convLong_calls t w
  generalize convB 2 t = r at *
  go_enter Tryz.func238, Tryz.ntmps238
  go_wp2_with (go_at_call 252; refine (hi.out _).mono ?_; rintro e w' ⟨⟨x, rfl⟩, he⟩; subst he)
  go_ret2
  exact ⟨⟨_, rfl⟩, rfl⟩
 by_cases k3 : k = 3
 ·subst k3
  clear k1 k2
  have hi : Hid (∀ w, Calls Tryz.prog 253 #[.int .i64 t, .float .f64 0] w (Pair (convB 3 t) w)) := fun w => convFloat_calls t w
  generalize convB 3 t = r at *
  go_enter Tryz.func238, Tryz.ntmps238
  go_wp2_with (first | (go_at_call 250; refine (floatOf0_calls _).mono ?_; rintro e w' ⟨rfl, he⟩; subst he) | (go_at_call 253; refine (hi.out _).mono ?_; rintro e w' ⟨⟨x, rfl⟩, he⟩; subst he))
  go_ret2
  exact ⟨⟨_, rfl⟩, rfl⟩
 have hr : convB k t = false := by simp [convB, k1, k2, k3]
 have k1' : (k == 1) = false := by simpa using k1
 have k2' : (k == 2) = false := by simpa using k2
 have k3' : (k == 3) = false := by simpa using k3
 rw [hr]
 clear hr k1 k2 k3
 go_enter Tryz.func238, Tryz.ntmps238
 go_wp2
 go_ret2
 exact ⟨⟨_, rfl⟩, rfl⟩
def contB (o k a b : Int) (T C N Y : ByteArray) (zs : List Int) (size locals : Int) : Bool :=
 if o = 1 then constB k a
 else if o = 2 then decide ((T.size : Int) ≤ 200)
 else if o = 4 ∨ o = 5 then betw k 1 4 && wthn a locals
 else if o = 6 then wthn a locals && betw b (-32768) 32767
 else if o = 11 ∨ o = 12 ∨ o = 13 ∨ o = 14 ∨ o = 16 then k == 3 || betw k 1 2
 else if 15 ≤ o ∧ o ≤ 22 then betw k 1 2
 else if o = 23 then (k == 2 && b == 0) || (k == 3 && (b == -1 || b == 1))
 else if o = 24 then convB k a
 else if 25 ≤ o ∧ o ≤ 30 then wthn a size && jumpB o b size zs
 else if o = 31 ∨ o = 32 then nameOk C.data.toList && nameOk N.data.toList && typeL Y.data.toList && betw b 0 1
 else if o = 33 then nameOk C.data.toList && nameOk N.data.toList && sigOk Y.data.toList && betw b 1 4
 else if o = 34 then nameOk C.data.toList
 else if o = 35 then typeL (91 :: Y.data.toList)
 else if o = 37 ∨ o = 38 then betw k 1 4
 else if o = 39 ∨ o = 40 then kindL Y.data.toList == 4
 else if o = 44 then betw k 0 4
 else true
theorem keep1 {W W' : World} {p : Addr} {v : Value} (h : W.cell? p = some v) (hb : Below W.heap.size W W') : W'.cell? p = some v := by
 rw [hb.cell (p := p) (World.block_lt_of_cell? W p h)]; exact h
theorem no_way {P : Int → Prop} {o n : Int} (hS : Hid (P o)) (h : (o == n) = true) (hn : ¬ P n) : False := hn (by rw [← eq_of_beq h]; exact hS.out)
end Go.Proofs.YtjjccimeikkogaaGreatDoor
