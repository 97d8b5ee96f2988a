/- impl.jumpOk, impl.constOk: what each answers. -/
import Derived.Test.YtcencddbdidjjaaGreatDoorInsB
import Derived.Test.YtcencddbdidjjaaGreatDoorNum
import Derived.WalkSmall
namespace Go.Proofs.YtcencddbdidjjaaGreatDoor
set_option linter.unusedVariables false
open Go.ChangeShapes Go.WideShapes Go.ChangeAt Go.RowKit

theorem below2 (w : World) (o1 o2 : Obj) : Below w.heap.size w ((w.alloc o1).alloc o2) := ((Below.refl _ _).alloc (Nat.le_refl _) _).alloc (by simp) _
theorem below2n (w : World) (o1 o2 : Obj) (n : Nat) : Below w.heap.size w (((w.alloc o1).alloc o2).drewN n) := below_drewN (below2 w o1 o2) n
theorem below1 (w : World) (o1 : Obj) : Below w.heap.size w (w.alloc o1) := (Below.refl _ _).alloc (Nat.le_refl _) _

theorem below_below {w W w' : World} (h : Below w.heap.size w W) (h2 : Below W.heap.size W w') : Below w.heap.size w w' := h.trans (h2.mono h.size)

def jumpB (o b size : Int) (zs : List Int) : Bool :=
  if o = 26 ∨ o = 27 then betw b 1 6 else if o = 28 ∨ o = 29 then betw b 1 2 else if o = 30 then (b == wrap32 b) && betw zs.length 1 100 && !(zs.any fun z => !wthn z size) else true

set_option maxRecDepth 1000000 in
set_option maxHeartbeats 1000000 in
theorem jump30_calls (k a b size : Int) (T C N Y : ByteArray) (v : Value) (zs : List Int) (w : World) (ht : Tab w v zs) (hz : zs.length ≤ 1048576) :
    Calls Tryz.prog 59 #[insV 30 k a b T C N Y v, .int .i64 size] w fun e w' => e = .returned (.bool ((b == wrap32 b) && betw zs.length 1 100 && !(zs.any fun z => !wthn z size))) ∧ Below w.heap.size w w' := by
  obtain ⟨ta, c, rfl⟩ := ht.form
  have hmf : ∀ (fn : Fn) (first cap : Array Value) (w : World), (Instr.makeFunc fn first cap).run Tryz.prog w = .ok (.func fn first cap) w := fun _ _ _ _ => rfl
  have wrapH : Hid (∀ w, Calls Tryz.prog 80 #[.int .i64 b] w fun e w' => e = .returned (.int .i64 (wrap32 b)) ∧ w' = w) := fun w => implWrap_calls b w
  have betH : Hid (∀ w, Calls Tryz.prog 36 #[.int .i64 zs.length, .int .i64 1, .int .i64 100] w fun e w' => e = .returned (.bool (betw zs.length 1 100)) ∧ w' = w) := fun w => between_calls _ _ _ w
  have conH : Hid (∀ W : World, W.cell? ⟨w.heap.size + 1, 0, none⟩ = some (.int .i64 size) → Below w.heap.size w W → Calls Tryz.prog 87 #[.slice ta zs.length c, .func (.func 86) #[] #[.pointer (some ⟨w.heap.size + 1, 0, none⟩)]] W fun e w' => e = .returned (.bool (zs.any fun z => !wthn z size)) ∧ w' = W) :=
    fun W hc hb => contains_calls _ zs size _ W hc (ht.kept hb) hz
  clear ht
  generalize (zs.any fun z => !wthn z size) = x at *
  generalize betw zs.length 1 100 = y at *
  generalize wrap32 b = u at *
  generalize zs.length = n at *
  cases hb : (b == u) with
  | false =>
    go_enter Tryz.func59, Tryz.ntmps59
    go_wp2
    go_quiet (first | (go_at_call 80; exact Calls.quiet_of_same (wrapH.out _)) | (go_at_call 36; exact Calls.quiet_of_same (betH.out _)))
    go_wp2
    go_ret
    exact ⟨rfl, below2n _ _ _ _⟩
  | true =>
    cases y with
    | false =>
      go_enter Tryz.func59, Tryz.ntmps59
      go_wp2
      go_quiet (first | (go_at_call 80; exact Calls.quiet_of_same (wrapH.out _)) | (go_at_call 36; exact Calls.quiet_of_same (betH.out _)))
      go_wp2
      go_ret
      exact ⟨rfl, below2n _ _ _ _⟩
    | true =>
      go_enter Tryz.func59, Tryz.ntmps59
      go_wp2
      go_quiet (first | (go_at_call 80; exact Calls.quiet_of_same (wrapH.out _)) | (go_at_call 36; exact Calls.quiet_of_same (betH.out _)) | (go_at_call 87; exact Calls.quiet_of_same (conH.out _ (by simp) (below2n _ _ _ _))))
      go_wp2
      go_ret
      exact ⟨rfl, below2n _ _ _ _⟩

set_option maxRecDepth 1000000 in
set_option maxHeartbeats 1000000 in
theorem jumpOk_calls (o k a b size : Int) (T C N Y : ByteArray) (v : Value) (zs : List Int) (w : World) (ht : Tab w v zs) (hz : zs.length ≤ 1048576) :
    Calls Tryz.prog 59 #[insV o k a b T C N Y v, .int .i64 size] w fun e w' => e = .returned (.bool (jumpB o b size zs)) ∧ Below w.heap.size w w' := by
  by_cases h30 : o = 30
  · subst h30; exact jump30_calls k a b size T C N Y v zs w ht hz
  have h30' : (o == 30) = false := by simpa using h30
  obtain ⟨r, hr⟩ : ∃ r, jumpB o b size zs = r := ⟨_, rfl⟩
  rw [hr]
  have hrH : Hid (jumpB o b size zs = r) := hr
  clear hr ht
  go_enter Tryz.func59, Tryz.ntmps59
  go_wp2_with (go_at_call 36; refine (between_calls _ _ _ _).mono ?_; rintro e w' ⟨rfl, he⟩; subst he)
  all_goals (
    go_ret
    refine ⟨?_, below2 _ _ _⟩
    go_light
    rw [← hrH.out]
    first
      | (rename_i h; have e := eq_of_beq h; subst e; rfl)
      | (simp only [beq_eq_false_iff_ne, ne_eq] at *
         unfold jumpB
         rw [if_neg (by omega), if_neg (by omega), if_neg (by omega)]
         rfl))

theorem float64bits (b : Nat) (w : World) : (callFunc 100 #[.float .f64 b]).run Tryz.prog w = .ok (.value (.int .u64 b)) w := by kernel_rfl
theorem float64frombits (n : Int) (w : World) : (callFunc 101 #[.int .u64 n]).run Tryz.prog w = .ok (.value (.float .f64 n.toNat)) w := by kernel_rfl
theorem floatOf_calls (n : Int) (w : World) : Calls Tryz.prog 82 #[.int .i64 n] w fun e w' => e = .returned (.float .f64 (IntKind.u64.wrap n).toNat) ∧ w' = w := by
  have hx := float64frombits
  go_enter Tryz.func82, Tryz.ntmps82
  go_wp2
  go_ret
  exact ⟨rfl, rfl⟩
theorem isNaN_calls (b : Nat) (w : World) : Calls Tryz.prog 95 #[.float .f64 b] w fun e w' => e = .returned (.bool (FloatKind.f64.format.order b b != some .eq)) ∧ w' = w := by
  go_enter Tryz.func95, Tryz.ntmps95
  go_wp2
  go_ret
  exact ⟨rfl, rfl⟩
theorem bitsOf_num (b : Nat) (h : FloatKind.f64.format.order b b = some .eq) (w : World) : Calls Tryz.prog 81 #[.float .f64 b] w fun e w' => e = .returned (.int .i64 (wrap64 b)) ∧ w' = w := by
  have hx := float64bits
  go_enter Tryz.func81, Tryz.ntmps81
  go_wp2_with (go_at_call 95; refine (isNaN_calls _ _).mono ?_; rintro e w' ⟨rfl, he⟩; subst he)
  go_ret
  exact ⟨rfl, rfl⟩
theorem bitsOf_nan (b : Nat) (h : FloatKind.f64.format.order b b = none) (w : World) : Calls Tryz.prog 81 #[.float .f64 b] w fun e w' => e = .returned (.int .i64 9221120237041090560) ∧ w' = w := by
  have hx := float64bits
  go_enter Tryz.func81, Tryz.ntmps81
  go_wp2_with (go_at_call 95; refine (isNaN_calls _ _).mono ?_; rintro e w' ⟨rfl, he⟩; subst he)
  go_ret
  exact ⟨rfl, rfl⟩

/-- The floats that may stand in an instruction: all but those that are no number, and of these the one form. -/
def fltOk (a : Int) : Bool := decide (openC a < 2) || a == 9221120237041090560
def constB (k a : Int) : Bool := if k = 1 then a == wrap32 a else if k = 2 then true else if k = 3 then fltOk a else false
theorem wrap_back (a : Int) (h1 : -9223372036854775808 ≤ a) (h2 : a < 9223372036854775808) : wrap64 ((IntKind.u64.wrap a).toNat : Int) = a := by
  have e : IntKind.u64.wrap a = a % 18446744073709551616 := by
    simp only [IntKind.wrap, IntKind.bits, IntKind.signed]; simp
  rw [e]; unfold wrap64; omega
theorem constFloat_calls (a : Int) (w : World) (h1 : -9223372036854775808 ≤ a) (h2 : a < 9223372036854775808) : Calls Tryz.prog 56 #[.int .i64 3, .int .i64 a] w fun e w' => e = .returned (.bool (fltOk a)) ∧ w' = w := by
  have ho := order_bits a a h1 h2 h1 h2
  have floatH : Hid (∀ w, Calls Tryz.prog 82 #[.int .i64 a] w fun e w' => e = .returned (.float .f64 (IntKind.u64.wrap a).toNat) ∧ w' = w) := fun w => floatOf_calls a w
  have hwb := wrap_back a h1 h2
  by_cases hn : isNo a
  · rw [if_pos (.inl hn)] at ho
    have bitsH : Hid (∀ w, Calls Tryz.prog 81 #[.float .f64 (IntKind.u64.wrap a).toNat] w fun e w' => e = .returned (.int .i64 9221120237041090560) ∧ w' = w) := fun w => bitsOf_nan _ ho w
    have hc : openC a = 2 := (class_no a).2 hn
    have hr : fltOk a = (a == 9221120237041090560) := by unfold fltOk; rw [hc]; rfl
    rw [hr]
    clear ho hwb hn hc hr
    generalize (IntKind.u64.wrap a).toNat = f at *
    go_enter Tryz.func56, Tryz.ntmps56
    go_wp2_with (first | (go_at_call 82; refine (floatH.out _).mono ?_; rintro e w' ⟨rfl, he⟩; subst he) | (go_at_call 81; refine (bitsH.out _).mono ?_; rintro e w' ⟨rfl, he⟩; subst he))
    go_ret
    exact ⟨rfl, rfl⟩
  · rw [if_neg (by rintro (h | h) <;> exact hn h), compare_eq rfl] at ho
    have bitsH : Hid (∀ w, Calls Tryz.prog 81 #[.float .f64 (IntKind.u64.wrap a).toNat] w fun e w' => e = .returned (.int .i64 a) ∧ w' = w) := fun w => by
      have := bitsOf_num _ ho w
      rwa [hwb] at this
    have hc : ¬ openC a = 2 := fun h => hn ((class_no a).1 h)
    have hr : fltOk a = true := by
      have : openC a < 2 := by unfold openC at hc ⊢; split at hc <;> (try split at hc) <;> simp_all
      unfold fltOk; simp [this]
    rw [hr]
    clear ho hwb hn hc hr
    generalize (IntKind.u64.wrap a).toNat = f at *
    go_enter Tryz.func56, Tryz.ntmps56
    go_wp2_with (first | (go_at_call 82; refine (floatH.out _).mono ?_; rintro e w' ⟨rfl, he⟩; subst he) | (go_at_call 81; refine (bitsH.out _).mono ?_; rintro e w' ⟨rfl, he⟩; subst he))
    go_ret
    exact ⟨by simp, rfl⟩
theorem constOk_calls (k a : Int) (w : World) (h1 : -9223372036854775808 ≤ a) (h2 : a < 9223372036854775808) : Calls Tryz.prog 56 #[.int .i64 k, .int .i64 a] w fun e w' => e = .returned (.bool (constB k a)) ∧ w' = w := by
  by_cases k3 : k = 3
  · subst k3; exact constFloat_calls a w h1 h2
  by_cases k1 : k = 1
  · subst k1
    show Calls Tryz.prog 56 #[.int .i64 1, .int .i64 a] w fun e w' => e = .returned (.bool (a == wrap32 a)) ∧ w' = w
    clear k3
    go_enter Tryz.func56, Tryz.ntmps56
    go_wp2_with (go_at_call 80; refine (implWrap_calls _ _).mono ?_; rintro e w' ⟨rfl, he⟩; subst he)
    go_ret
    exact ⟨rfl, rfl⟩
  have k3' : (k == 3) = false := by simpa using k3
  have k1' : (k == 1) = false := by simpa using k1
  obtain ⟨r, hr⟩ : ∃ r, constB k a = r := ⟨_, rfl⟩
  rw [hr]
  have hrH : Hid (constB k a = r) := hr
  clear hr k3 k1
  go_enter Tryz.func56, Tryz.ntmps56
  go_wp2
  all_goals (
    go_ret
    refine ⟨?_, rfl⟩
    go_light
    rw [← hrH.out]
    first
      | (rename_i h; have e := eq_of_beq h; subst e; rfl)
      | (simp only [beq_eq_false_iff_ne, ne_eq] at *
         unfold constB
         rw [if_neg (by omega), if_neg (by omega), if_neg (by omega)]
         rfl))
end Go.Proofs.YtcencddbdidjjaaGreatDoor
