import Derived.Test.YtjjccimeikkogaaGreatDoorSpC
set_option maxRecDepth 1000000
set_option maxHeartbeats 2000000
namespace Go.Proofs.YtjjccimeikkogaaGreatDoor
set_option linter.unusedVariables false
open Go.ChangeShapes Go.WideShapes Go.ChangeAt Go.RowKit
theorem whole0_calls (lo hi : Int) (hlo : ¬ (0 : Int) < lo) (hhi : ¬ hi < (0 : Int)) (w : World) : Calls Tryz.prog 223 #[.int .i64 0, .int .i64 lo, .int .i64 hi] w (SomeInt w) := by
 unfold SomeInt
 go_enter Tryz.func223, Tryz.ntmps223
 go_wp2_with (go_at_call 205; refine (open0_calls _).mono ?_; rintro e w' ⟨rfl, rfl⟩)
 refine wp_loop_rounds 1 ?_
 rw [rounds_succ]
 go_wp2
 refine wp_loop_rounds 1 ?_
 rw [rounds_succ]
 go_wp2
 go_ret
 refine ⟨⟨_, rfl⟩, ?_⟩
 repeat (first | exact Below.refl _ _ | apply below_cells)
theorem beq_no {a b : Int} (h : a ≠ b) : (a == b) = false := by simpa using h
theorem specConv_calls (k t : Int) (w : World) : Calls Tryz.prog 206 #[.int .i64 k, .int .i64 t, .int .i64 0] w (PairB (convB k t) w) := by
 unfold PairB
 by_cases hkt : k = t
 ·subst hkt
  have hr : convB k k = false := by
   unfold convB; split
   ·subst_vars; rfl
   ·split
    ·subst_vars; rfl
    ·split
     ·subst_vars; rfl
     ·rfl
  rw [hr]
  have hb : (k == k) = true := by simp
  go_enter Tryz.func206, Tryz.ntmps206
  go_wp2
  go_ret2
  exact ⟨⟨_, rfl⟩, Below.refl _ _⟩
 have hkt' := beq_no hkt
 by_cases k1 : k = 1
 ·subst k1
  by_cases t3 : t = 3
  ·subst t3
   clear hkt
   show Calls Tryz.prog 206 _ w fun e w' => (∃ x, e = .returned (.tuple #[.int .i64 x, .bool true])) ∧ Below w.heap.size w w'
   go_enter Tryz.func206, Tryz.ntmps206
   go_wp2_with (first | (go_at_call 204; refine (specWrap0_calls _).mono ?_; rintro e w' ⟨rfl, he⟩; subst he) | (go_at_call 226; refine (bits_zero _).mono ?_; rintro e1 w1 ⟨rfl, rfl⟩) | (go_at_call 225; refine (round_none _ _ _ _ _ _).mono ?_; rintro e6 w7 ⟨⟨z, rfl⟩, he6⟩; subst he6))
   go_ret2
   exact ⟨⟨_, rfl⟩, below1 _ _⟩
  have t3' : (t != 3) = true := by simpa using t3
  obtain ⟨r, hr⟩ : ∃ r, convB 1 t = r := ⟨_, rfl⟩
  rw [hr]
  have hrH : Hid (convB 1 t = r) := hr
  have t3H : Hid (t ≠ 3) := t3
  clear hr t3 hkt
  go_enter Tryz.func206, Tryz.ntmps206
  go_wp2_with (go_at_call 204; refine (specWrap0_calls _).mono ?_; rintro e w' ⟨rfl, he⟩; subst he)
  all_goals (
   go_ret2
   refine ⟨?_, Below.refl _ _⟩
   go_light
   rw [← hrH.out]
   have t3 := t3H.out
   clear hrH t3H t3'
   simp only [beq_iff_eq, beq_eq_false_iff_ne, ne_eq] at *
   first
    | (exfalso; omega)
    | (subst_vars; exact ⟨_, rfl⟩)
    | (have hr : convB 1 t = false := by simp_all [convB]
       rw [hr]
       exact ⟨_, rfl⟩))
 have k1' := beq_no k1
 by_cases k2 : k = 2
 ·subst k2
  by_cases t3 : t = 3
  ·subst t3
   clear hkt k1 k1'
   show Calls Tryz.prog 206 _ w fun e w' => (∃ x, e = .returned (.tuple #[.int .i64 x, .bool true])) ∧ Below w.heap.size w w'
   go_enter Tryz.func206, Tryz.ntmps206
   go_wp2_with (first | (go_at_call 226; refine (bits_zero _).mono ?_; rintro e1 w1 ⟨rfl, rfl⟩) | (go_at_call 225; refine (round_none _ _ _ _ _ _).mono ?_; rintro e6 w7 ⟨⟨z, rfl⟩, he6⟩; subst he6))
   go_ret2
   exact ⟨⟨_, rfl⟩, below1 _ _⟩
  have t3' : (t != 3) = true := by simpa using t3
  by_cases t1 : t = 1
  ·subst t1
   clear hkt k1 k1' t3 t3'
   show Calls Tryz.prog 206 _ w fun e w' => (∃ x, e = .returned (.tuple #[.int .i64 x, .bool true])) ∧ Below w.heap.size w w'
   go_enter Tryz.func206, Tryz.ntmps206
   go_wp2_with (go_at_call 204; refine (specWrap0_calls _).mono ?_; rintro e w' ⟨rfl, he⟩; subst he)
   go_ret2
   exact ⟨⟨_, rfl⟩, Below.refl _ _⟩
  have t1' := beq_no t1
  have hr : convB 2 t = false := by simp [convB, t1, t3]
  rw [hr]
  clear hkt k1 k1' t3 t1 hr
  go_enter Tryz.func206, Tryz.ntmps206
  go_wp2
  go_ret2
  exact ⟨⟨_, rfl⟩, Below.refl _ _⟩
 have k2' := beq_no k2
 by_cases k3 : k = 3
 ·subst k3
  by_cases t1 : t = 1
  ·subst t1
   clear hkt k1 k1' k2 k2'
   show Calls Tryz.prog 206 _ w fun e w' => (∃ x, e = .returned (.tuple #[.int .i64 x, .bool true])) ∧ Below w.heap.size w w'
   go_enter Tryz.func206, Tryz.ntmps206
   go_wp2_with (go_at_call 223; refine (whole0_calls _ _ (by omega) (by omega) _).mono ?_; rintro e w1 ⟨⟨z, rfl⟩, hb1⟩)
   go_ret2
   exact ⟨⟨_, rfl⟩, hb1⟩
  by_cases t2 : t = 2
  ·subst t2
   clear hkt k1 k1' k2 k2' t1
   show Calls Tryz.prog 206 _ w fun e w' => (∃ x, e = .returned (.tuple #[.int .i64 x, .bool true])) ∧ Below w.heap.size w w'
   go_enter Tryz.func206, Tryz.ntmps206
   go_wp2_with (go_at_call 223; refine (whole0_calls _ _ (by omega) (by omega) _).mono ?_; rintro e w1 ⟨⟨z, rfl⟩, hb1⟩)
   go_ret2
   exact ⟨⟨_, rfl⟩, hb1⟩
  have t1' := beq_no t1
  have t2' := beq_no t2
  have hr : convB 3 t = false := by simp [convB, t1, t2]
  rw [hr]
  clear hkt k1 k1' k2 k2' t1 t2 hr
  go_enter Tryz.func206, Tryz.ntmps206
  go_wp2
  go_ret2
  exact ⟨⟨_, rfl⟩, Below.refl _ _⟩
 have k3' := beq_no k3
 have hr : convB k t = false := by simp [convB, k1, k2, k3]
 rw [hr]
 clear hkt k1 k2 k3 hr
 go_enter Tryz.func206, Tryz.ntmps206
 go_wp2
 go_ret2
 exact ⟨⟨_, rfl⟩, Below.refl _ _⟩
def contS (o k a b : Int) (T C N Y : ByteArray) (zs : List Int) (size locals : Int) : Bool :=
 if o = 1 then (k == 1 && wrap32 a == a) || k == 2 || (k == 3 && fltOk a)
 else if o = 2 then decide ((T.size : Int) ≤ 200)
 else if o = 3 ∨ (7 ≤ o ∧ o ≤ 10) ∨ o = 36 ∨ (41 ≤ o ∧ o ≤ 43) then true
 else if o = 4 ∨ o = 5 then betw k 1 4 && wthn a locals
 else if o = 6 then wthn a locals && betw b (-32768) 32767
 else if o = 23 then k == 2 || (k == 3 && (b == -1 || b == 1))
 else if o = 24 then convB k a
 else if o = 25 then wthn a size
 else if o = 26 ∨ o = 27 then wthn a size && betw b 1 6
 else if o = 28 ∨ o = 29 then wthn a size && betw b 1 2
 else if o = 30 then wthn a size && (wrap32 b == b) && decide ((0 : Int) < zs.length) && decide ((zs.length : Int) ≤ 100) && zs.all fun z => wthn z size
 else if o = 31 ∨ o = 32 then nameOk C.data.toList && nameOk N.data.toList && typeL Y.data.toList && betw b 0 1
 else if o = 33 then nameOk C.data.toList && nameOk N.data.toList && sigOk Y.data.toList && betw b 1 4
 else if o = 34 then nameOk C.data.toList
 else if o = 35 then typeL (91 :: Y.data.toList)
 else if o = 37 ∨ o = 38 then betw k 1 4
 else if o = 39 ∨ o = 40 then kindL Y.data.toList == 4
 else if o = 44 then betw k 0 4
 else if 11 ≤ o ∧ o ≤ 22 then k == 1 || k == 2 || (k == 3 && flop o)
 else false
abbrev SpecSays (o k a b : Int) (T C N Y : ByteArray) (v : Value) (size locals : Int) (w : World) (r : Bool) : Prop :=
 Calls Tryz.prog 190 #[insV o k a b T C N Y v, .int .i64 size, .int .i64 locals] w fun e w' => e = .returned (.bool r) ∧ Below w.heap.size w w'
theorem spec_not (o k a b size locals : Int) (T C N Y : ByteArray) (v : Value) (zs : List Int) (w : World) (ht : Tab w v zs) (hz : zs.length ≤ 1048576) (hk : keptB o k a b T C N Y zs = false) :
  SpecSays o k a b T C N Y v size locals w false := by
 have c16' : ∀ W, Below w.heap.size w W → Calls Tryz.prog 202 #[insV o k a b T C N Y v, onlyV o k a b T C N Y v] W fun e w' => e = .returned (.bool false) ∧ Below W.heap.size W w' := fun W hW => by
  have := sameOnly_calls o k a b T C N Y v zs W (ht.kept hW) hz
  rwa [hk] at this
 obtain ⟨ta, c, rfl⟩ := ht.form
 generalize zs.length = n at *
 obtain ⟨ov, hov⟩ : ∃ ov, onlyV o k a b T C N Y (.slice ta n c) = ov := ⟨_, rfl⟩
 have c17' : ∀ W, Calls Tryz.prog 203 #[insV o k a b T C N Y (.slice ta n c)] W fun e w' => e = .returned ov ∧ Below W.heap.size W w' := fun W => by
  rw [← hov]; exact only_calls o k a b T C N Y ta n c W
 rw [hov] at c16'
 clear hov hk ht
 go_enter Tryz.func190, Tryz.ntmps190
 go_wp2_with fail
 obtain ⟨W, hW⟩ : ∃ W : World, W = w.alloc (.cells #[.int .i64 o, .int .i64 k, .int .i64 a, .int .i64 b, .string T, .string C, .string N, .string Y, .slice ta n c] 110) := ⟨_, rfl⟩
 rw [← hW]
 have hbW : Below w.heap.size w W := by rw [hW]; exact below1 _ _
 have hS := startI hW
 obtain ⟨s0, s1, s2, s3, s4, s5, s6, s7, s8⟩ := hS
 have k0 := cell_regrown s0
 have k1 := cell_regrown s1
 have k2 := cell_regrown s2
 have k3 := cell_regrown s3
 have k4 := cell_regrown s4
 have k5 := cell_regrown s5
 have k6 := cell_regrown s6
 have k7 := cell_regrown s7
 have k8 := cell_regrown s8
 have c17 : ∀ d os, Calls Tryz.prog 203 #[insV o k a b T C N Y (.slice ta n c)] (Sort.grow (redrawn W d) os) fun e w'' => e = .returned ov ∧ ∃ p : Regrown, w'' = Sort.grow (redrawn W p.d) p.os := fun d os => Calls.regrown_of (c17' _)
 have c16 : ∀ d os, Calls Tryz.prog 202 #[insV o k a b T C N Y (.slice ta n c), ov] (Sort.grow (redrawn W d) os) fun e w'' => e = .returned (.bool false) ∧ ∃ p : Regrown, w'' = Sort.grow (redrawn W p.d) p.os := fun d os => Calls.regrown_of (c16' _ (hbW.trans ((below_regrown W d os).mono hbW.size)))
 clear hW c17' c16' s0 s1 s2 s3 s4 s5 s6 s7 s8
 refine wp_region_quiet_below (by kernel_rfl) (by kernel_rfl) ?_
 repeat (quiet_step (first | exact c17 _ _ | exact c16 _ _))
 refine wpQuiet_nil ?_
 intro _ hw'
 obtain ⟨⟨dq, osq⟩, hw''⟩ := hw'
 subst hw''
 have hB : Below w.heap.size w (Sort.grow (redrawn W dq) osq) := hbW.trans ((below_regrown W dq osq).mono hbW.size)
 have s0 := k0 dq osq
 have s1 := k1 dq osq
 have s2 := k2 dq osq
 have s3 := k3 dq osq
 have s4 := k4 dq osq
 have s5 := k5 dq osq
 have s6 := k6 dq osq
 have s7 := k7 dq osq
 have s8 := k8 dq osq
 clear k0 k1 k2 k3 k4 k5 k6 k7 k8 c16 c17 hbW
 show _
 generalize Sort.grow (redrawn W dq) osq = V at *
 try clear W
 go_wp2
 go_ret
 exact ⟨rfl, hB⟩
end Go.Proofs.YtjjccimeikkogaaGreatDoor
