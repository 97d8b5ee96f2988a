import Derived.Test.YtjjccimeikkogaaGreatDoorSpF
set_option maxRecDepth 1000000
set_option maxHeartbeats 20000000
namespace Go.Proofs.YtjjccimeikkogaaGreatDoor
set_option linter.unusedVariables false
open Go.ChangeShapes Go.WideShapes Go.ChangeAt Go.RowKit
theorem field3 (x y z u : Value) (w : World) : (Instr.field 214 (.agg #[x, y, z, u]) 3).run Tryz.prog w = .ok u w := by kernel_rfl
theorem open_below (a : Int) (w : World) : Calls Tryz.prog 205 #[.int .i64 a] w fun e w' => e = .returned (.agg #[.bool (decide (a < 0)), .int .i64 (openM a), .int .i64 (openE a), .int .i64 (openC a)]) ∧ Below w.heap.size w w' := by
 refine (open_calls a w).mono ?_
 rintro e w' ⟨rfl, rfl⟩
 exact ⟨rfl, below2 _ _ _⟩
theorem specOne1 (k a b size locals : Int) (T C N Y : ByteArray) (v : Value) (zs : List Int) (w : World) (ht : Tab w v zs) (hz : zs.length ≤ 1048576) (hk : keptB 1 k a b T C N Y zs = true) (r : Bool) (hc : Hid (((k == 1) = true ∧ (wrap32 a == a) = true ∧ r = true) ∨ ((k == 1) = true ∧ (wrap32 a == a) = false ∧ (k == 2) = false ∧ (k == 3) = false ∧ r = false))) :
  SpecSays 1 k a b T C N Y v size locals w r := by
 obtain ⟨o, ho1⟩ : ∃ o : Int, o = 1 := ⟨_, rfl⟩
 rw [← ho1] at hk
 show SpecSays 1 k a b T C N Y v size locals w _
 rw [← ho1]
 have hone : (o == 1) = true := by simp [ho1]
 clear ho1
 have c16' : ∀ W, Below w.heap.size w W → Calls Tryz.prog 202 #[insV o k a b T C N Y v, onlyV o k a b T C N Y v] W fun e w' => e = .returned (.bool true) ∧ Below W.heap.size W w' := fun W hW => by
  have := sameOnly_calls o k a b T C N Y v zs W (ht.kept hW) hz
  rwa [hk] at this
 obtain ⟨ta, c, hv⟩ := ht.form
 subst hv
 obtain ⟨n, hn⟩ : ∃ n, zs.length = n := ⟨_, rfl⟩
 rw [hn] at c16' ⊢
 clear hn
 obtain ⟨ov, hov⟩ : ∃ ov, onlyV o k a b T C N Y (.slice ta n c) = ov := ⟨_, rfl⟩
 have c17' : ∀ W, Calls Tryz.prog 203 #[insV o k a b T C N Y (.slice ta n c)] W fun e w' => e = .returned ov ∧ Below W.heap.size W w' := fun W => by
  rw [← hov]; exact only_calls o k a b T C N Y ta n c W
 rw [hov] at c16'
 clear hov hk ht hz
 go_enter Tryz.func190, Tryz.ntmps190
 go_wp2_with fail
 obtain ⟨W, hW⟩ : ∃ W : World, W = w.alloc (.cells #[.int .i64 o, .int .i64 k, .int .i64 a, .int .i64 b, .string T, .string C, .string N, .string Y, .slice ta n c] 110) := ⟨_, rfl⟩
 rw [← hW]
 have hbW : Below w.heap.size w W := by rw [hW]; exact below1 _ _
 have hS := startI hW
 obtain ⟨s0, s1, s2, s3, s4, s5, s6, s7, s8⟩ := hS
 have k0 := cell_regrown s0
 have k1 := cell_regrown s1
 have k2 := cell_regrown s2
 have k3 := cell_regrown s3
 have k4 := cell_regrown s4
 have k5 := cell_regrown s5
 have k6 := cell_regrown s6
 have k7 := cell_regrown s7
 have k8 := cell_regrown s8
 have c17 : ∀ d os, Calls Tryz.prog 203 #[insV o k a b T C N Y (.slice ta n c)] (Sort.grow (redrawn W d) os) fun e w'' => e = .returned ov ∧ ∃ p : Regrown, w'' = Sort.grow (redrawn W p.d) p.os := fun d os => Calls.regrown_of (c17' _)
 have c16 : ∀ d os, Calls Tryz.prog 202 #[insV o k a b T C N Y (.slice ta n c), ov] (Sort.grow (redrawn W d) os) fun e w'' => e = .returned (.bool true) ∧ ∃ p : Regrown, w'' = Sort.grow (redrawn W p.d) p.os := fun d os => Calls.regrown_of (c16' _ (hbW.trans ((below_regrown W d os).mono hbW.size)))
 clear hW c17' c16' s0 s1 s2 s3 s4 s5 s6 s7 s8
 refine wp_region_quiet_below (by kernel_rfl) (by kernel_rfl) ?_
 repeat (quiet_step (first | exact c17 _ _ | exact c16 _ _))
 refine wpQuiet_nil ?_
 intro _ hw'
 obtain ⟨⟨dq, osq⟩, hw''⟩ := hw'
 subst hw''
 have hB : Below w.heap.size w (Sort.grow (redrawn W dq) osq) := hbW.trans ((below_regrown W dq osq).mono hbW.size)
 have s0 := k0 dq osq
 have s1 := k1 dq osq
 have s2 := k2 dq osq
 have s3 := k3 dq osq
 have s4 := k4 dq osq
 have s5 := k5 dq osq
 have s6 := k6 dq osq
 have s7 := k7 dq osq
 have s8 := k8 dq osq
 clear k0 k1 k2 k3 k4 k5 k6 k7 k8 c16 c17 hbW
 show _
 generalize Sort.grow (redrawn W dq) osq = V at *
 try clear W
 have hfd := field3
 have m1 := cell_regrown s1
 have m2 := cell_regrown s2
 have c19 : ∀ d os, Calls Tryz.prog 204 #[.int .i64 a] (Sort.grow (redrawn V d) os) fun e w'' => e = .returned (.int .i64 (wrap32 a)) ∧ ∃ p : Regrown, w'' = Sort.grow (redrawn V p.d) p.os := fun d os => Calls.regrown_of (same_below (specWrap_calls a _))
 have c20 : ∀ d os, Calls Tryz.prog 205 #[.int .i64 a] (Sort.grow (redrawn V d) os) fun e w'' => e = .returned (.agg #[.bool (decide (a < 0)), .int .i64 (openM a), .int .i64 (openE a), .int .i64 (openC a)]) ∧ ∃ p : Regrown, w'' = Sort.grow (redrawn V p.d) p.os := fun d os => Calls.regrown_of (open_below a _)
 rcases hc.out with ⟨h1, hw, rfl⟩ | ⟨h1, hw, h2, h3, rfl⟩
 all_goals clear hc
 all_goals (
  generalize wrap32 a = wa at *
  generalize openM a = om at *
  generalize openE a = oe at *
  generalize openC a = oc at *
  have btH : Hid (∀ W, Calls Tryz.prog 174 #[.int .i64 k, .int .i64 1, .int .i64 4] W fun e w' => e = .returned (.bool (betw k 1 4)) ∧ w' = W) := fun W => l2Between_calls _ _ _ W
  generalize betw k 1 4 = bt at *
  go_wp2_with (go_at_call 174; refine (btH.out _).mono ?_; rintro e w' ⟨rfl, he⟩; subst w')
  all_goals (
   refine wp_region_quiet_below (by kernel_rfl) (by kernel_rfl) ?_
   repeat (first | go_big_quiet_step (exact c19 _ _) | quiet_step (exact c19 _ _))
   refine wpQuiet_nil ?_
   intro _ hw'
   obtain ⟨⟨dq2, osq2⟩, hw''⟩ := hw'
   subst hw''
   go_wp2
   go_ret
   exact ⟨rfl, hB.trans ((below_regrown V dq2 osq2).mono hB.size)⟩))
theorem specOne2 (k a b size locals : Int) (T C N Y : ByteArray) (v : Value) (zs : List Int) (w : World) (ht : Tab w v zs) (hz : zs.length ≤ 1048576) (hk : keptB 1 k a b T C N Y zs = true) (r : Bool) (hc : Hid (((k == 1) = false ∧ (k == 2) = true ∧ r = true) ∨ ((k == 1) = false ∧ (k == 2) = false ∧ (k == 3) = true ∧ decide (openC a < 2) = true ∧ r = true) ∨ ((k == 1) = false ∧ (k == 2) = false ∧ (k == 3) = true ∧ decide (openC a < 2) = false ∧ r = (a == 9221120237041090560)) ∨ ((k == 1) = false ∧ (k == 2) = false ∧ (k == 3) = false ∧ r = false))) :
  SpecSays 1 k a b T C N Y v size locals w r := by
 obtain ⟨o, ho1⟩ : ∃ o : Int, o = 1 := ⟨_, rfl⟩
 rw [← ho1] at hk
 show SpecSays 1 k a b T C N Y v size locals w _
 rw [← ho1]
 have hone : (o == 1) = true := by simp [ho1]
 clear ho1
 have c16' : ∀ W, Below w.heap.size w W → Calls Tryz.prog 202 #[insV o k a b T C N Y v, onlyV o k a b T C N Y v] W fun e w' => e = .returned (.bool true) ∧ Below W.heap.size W w' := fun W hW => by
  have := sameOnly_calls o k a b T C N Y v zs W (ht.kept hW) hz
  rwa [hk] at this
 obtain ⟨ta, c, hv⟩ := ht.form
 subst hv
 obtain ⟨n, hn⟩ : ∃ n, zs.length = n := ⟨_, rfl⟩
 rw [hn] at c16' ⊢
 clear hn
 obtain ⟨ov, hov⟩ : ∃ ov, onlyV o k a b T C N Y (.slice ta n c) = ov := ⟨_, rfl⟩
 have c17' : ∀ W, Calls Tryz.prog 203 #[insV o k a b T C N Y (.slice ta n c)] W fun e w' => e = .returned ov ∧ Below W.heap.size W w' := fun W => by
  rw [← hov]; exact only_calls o k a b T C N Y ta n c W
 rw [hov] at c16'
 clear hov hk ht hz
 go_enter Tryz.func190, Tryz.ntmps190
 go_wp2_with fail
 obtain ⟨W, hW⟩ : ∃ W : World, W = w.alloc (.cells #[.int .i64 o, .int .i64 k, .int .i64 a, .int .i64 b, .string T, .string C, .string N, .string Y, .slice ta n c] 110) := ⟨_, rfl⟩
 rw [← hW]
 have hbW : Below w.heap.size w W := by rw [hW]; exact below1 _ _
 have hS := startI hW
 obtain ⟨s0, s1, s2, s3, s4, s5, s6, s7, s8⟩ := hS
 have k0 := cell_regrown s0
 have k1 := cell_regrown s1
 have k2 := cell_regrown s2
 have k3 := cell_regrown s3
 have k4 := cell_regrown s4
 have k5 := cell_regrown s5
 have k6 := cell_regrown s6
 have k7 := cell_regrown s7
 have k8 := cell_regrown s8
 have c17 : ∀ d os, Calls Tryz.prog 203 #[insV o k a b T C N Y (.slice ta n c)] (Sort.grow (redrawn W d) os) fun e w'' => e = .returned ov ∧ ∃ p : Regrown, w'' = Sort.grow (redrawn W p.d) p.os := fun d os => Calls.regrown_of (c17' _)
 have c16 : ∀ d os, Calls Tryz.prog 202 #[insV o k a b T C N Y (.slice ta n c), ov] (Sort.grow (redrawn W d) os) fun e w'' => e = .returned (.bool true) ∧ ∃ p : Regrown, w'' = Sort.grow (redrawn W p.d) p.os := fun d os => Calls.regrown_of (c16' _ (hbW.trans ((below_regrown W d os).mono hbW.size)))
 clear hW c17' c16' s0 s1 s2 s3 s4 s5 s6 s7 s8
 refine wp_region_quiet_below (by kernel_rfl) (by kernel_rfl) ?_
 repeat (quiet_step (first | exact c17 _ _ | exact c16 _ _))
 refine wpQuiet_nil ?_
 intro _ hw'
 obtain ⟨⟨dq, osq⟩, hw''⟩ := hw'
 subst hw''
 have hB : Below w.heap.size w (Sort.grow (redrawn W dq) osq) := hbW.trans ((below_regrown W dq osq).mono hbW.size)
 have s0 := k0 dq osq
 have s1 := k1 dq osq
 have s2 := k2 dq osq
 have s3 := k3 dq osq
 have s4 := k4 dq osq
 have s5 := k5 dq osq
 have s6 := k6 dq osq
 have s7 := k7 dq osq
 have s8 := k8 dq osq
 clear k0 k1 k2 k3 k4 k5 k6 k7 k8 c16 c17 hbW
 show _
 generalize Sort.grow (redrawn W dq) osq = V at *
 try clear W
 have hfd := field3
 have m1 := cell_regrown s1
 have m2 := cell_regrown s2
 have c19 : ∀ d os, Calls Tryz.prog 204 #[.int .i64 a] (Sort.grow (redrawn V d) os) fun e w'' => e = .returned (.int .i64 (wrap32 a)) ∧ ∃ p : Regrown, w'' = Sort.grow (redrawn V p.d) p.os := fun d os => Calls.regrown_of (same_below (specWrap_calls a _))
 have c20 : ∀ d os, Calls Tryz.prog 205 #[.int .i64 a] (Sort.grow (redrawn V d) os) fun e w'' => e = .returned (.agg #[.bool (decide (a < 0)), .int .i64 (openM a), .int .i64 (openE a), .int .i64 (openC a)]) ∧ ∃ p : Regrown, w'' = Sort.grow (redrawn V p.d) p.os := fun d os => Calls.regrown_of (open_below a _)
 rcases hc.out with ⟨h1, h2, rfl⟩ | ⟨h1, h2, h3, ho, rfl⟩ | ⟨h1, h2, h3, ho, rfl⟩ | ⟨h1, h2, h3, rfl⟩
 all_goals clear hc
 all_goals (
  generalize wrap32 a = wa at *
  generalize openM a = om at *
  generalize openE a = oe at *
  generalize openC a = oc at *
  have btH : Hid (∀ W, Calls Tryz.prog 174 #[.int .i64 k, .int .i64 1, .int .i64 4] W fun e w' => e = .returned (.bool (betw k 1 4)) ∧ w' = W) := fun W => l2Between_calls _ _ _ W
  generalize betw k 1 4 = bt at *
  go_wp2_with (go_at_call 174; refine (btH.out _).mono ?_; rintro e w' ⟨rfl, he⟩; subst w')
  all_goals (
   refine wp_region_quiet_below (by kernel_rfl) (by kernel_rfl) ?_
   repeat (first | go_big_quiet_step (first | exact c19 _ _ | exact c20 _ _) | quiet_step (first | exact c19 _ _ | exact c20 _ _))
   refine wpQuiet_nil ?_
   intro _ hw'
   obtain ⟨⟨dq2, osq2⟩, hw''⟩ := hw'
   subst hw''
   go_wp2
   go_ret
   exact ⟨rfl, hB.trans ((below_regrown V dq2 osq2).mono hB.size)⟩))
theorem specCmp (k a b size locals : Int) (T C N Y : ByteArray) (v : Value) (zs : List Int) (w : World) (ht : Tab w v zs) (hz : zs.length ≤ 1048576) (hk : keptB 23 k a b T C N Y zs = true) (r : Bool) (hc : Hid ((0 ≤ a ∧ (k == 2) = true ∧ r = true) ∨ (0 ≤ a ∧ (k == 2) = false ∧ (k == 3) = false ∧ r = false) ∨ (0 ≤ a ∧ (k == 2) = false ∧ (k == 3) = true ∧ (b == -1) = true ∧ r = true) ∨ (0 ≤ a ∧ (k == 2) = false ∧ (k == 3) = true ∧ (b == -1) = false ∧ r = (b == 1)) ∨ (a < 0 ∧ (k == 2) = true ∧ r = true) ∨ (a < 0 ∧ (k == 2) = false ∧ (k == 3) = false ∧ r = false) ∨ (a < 0 ∧ (k == 2) = false ∧ (k == 3) = true ∧ (b == -1) = true ∧ r = true) ∨ (a < 0 ∧ (k == 2) = false ∧ (k == 3) = true ∧ (b == -1) = false ∧ r = (b == 1)))) :
  SpecSays 23 k a b T C N Y v size locals w r := by
 obtain ⟨o, ho1⟩ : ∃ o : Int, o = 23 := ⟨_, rfl⟩
 rw [← ho1] at hk
 show SpecSays 23 k a b T C N Y v size locals w _
 rw [← ho1]
 have x1 : (o == 1) = false := by simp [ho1]
 have x2 : (o == 2) = false := by simp [ho1]
 have x3 : (o == 3) = false := by simp [ho1]
 have x7 : (o == 7) = false := by simp [ho1]
 have x8 : (o == 8) = false := by simp [ho1]
 have x9 : (o == 9) = false := by simp [ho1]
 have x10 : (o == 10) = false := by simp [ho1]
 have x36 : (o == 36) = false := by simp [ho1]
 have x41 : (o == 41) = false := by simp [ho1]
 have x42 : (o == 42) = false := by simp [ho1]
 have x43 : (o == 43) = false := by simp [ho1]
 have x4 : (o == 4) = false := by simp [ho1]
 have x5 : (o == 5) = false := by simp [ho1]
 have x6 : (o == 6) = false := by simp [ho1]
 have x23 : (o == 23) = true := by simp [ho1]
 clear ho1
 have c16' : ∀ W, Below w.heap.size w W → Calls Tryz.prog 202 #[insV o k a b T C N Y v, onlyV o k a b T C N Y v] W fun e w' => e = .returned (.bool true) ∧ Below W.heap.size W w' := fun W hW => by
  have := sameOnly_calls o k a b T C N Y v zs W (ht.kept hW) hz
  rwa [hk] at this
 obtain ⟨ta, c, hv⟩ := ht.form
 subst hv
 obtain ⟨n, hn⟩ : ∃ n, zs.length = n := ⟨_, rfl⟩
 rw [hn] at c16' ⊢
 clear hn
 obtain ⟨ov, hov⟩ : ∃ ov, onlyV o k a b T C N Y (.slice ta n c) = ov := ⟨_, rfl⟩
 have c17' : ∀ W, Calls Tryz.prog 203 #[insV o k a b T C N Y (.slice ta n c)] W fun e w' => e = .returned ov ∧ Below W.heap.size W w' := fun W => by
  rw [← hov]; exact only_calls o k a b T C N Y ta n c W
 rw [hov] at c16'
 clear hov hk ht hz
 go_enter Tryz.func190, Tryz.ntmps190
 go_wp2_with fail
 obtain ⟨W, hW⟩ : ∃ W : World, W = w.alloc (.cells #[.int .i64 o, .int .i64 k, .int .i64 a, .int .i64 b, .string T, .string C, .string N, .string Y, .slice ta n c] 110) := ⟨_, rfl⟩
 rw [← hW]
 have hbW : Below w.heap.size w W := by rw [hW]; exact below1 _ _
 have hS := startI hW
 obtain ⟨s0, s1, s2, s3, s4, s5, s6, s7, s8⟩ := hS
 have k0 := cell_regrown s0
 have k1 := cell_regrown s1
 have k2 := cell_regrown s2
 have k3 := cell_regrown s3
 have k4 := cell_regrown s4
 have k5 := cell_regrown s5
 have k6 := cell_regrown s6
 have k7 := cell_regrown s7
 have k8 := cell_regrown s8
 have c17 : ∀ d os, Calls Tryz.prog 203 #[insV o k a b T C N Y (.slice ta n c)] (Sort.grow (redrawn W d) os) fun e w'' => e = .returned ov ∧ ∃ p : Regrown, w'' = Sort.grow (redrawn W p.d) p.os := fun d os => Calls.regrown_of (c17' _)
 have c16 : ∀ d os, Calls Tryz.prog 202 #[insV o k a b T C N Y (.slice ta n c), ov] (Sort.grow (redrawn W d) os) fun e w'' => e = .returned (.bool true) ∧ ∃ p : Regrown, w'' = Sort.grow (redrawn W p.d) p.os := fun d os => Calls.regrown_of (c16' _ (hbW.trans ((below_regrown W d os).mono hbW.size)))
 clear hW c17' c16' s0 s1 s2 s3 s4 s5 s6 s7 s8
 refine wp_region_quiet_below (by kernel_rfl) (by kernel_rfl) ?_
 repeat (quiet_step (first | exact c17 _ _ | exact c16 _ _))
 refine wpQuiet_nil ?_
 intro _ hw'
 obtain ⟨⟨dq, osq⟩, hw''⟩ := hw'
 subst hw''
 have hB : Below w.heap.size w (Sort.grow (redrawn W dq) osq) := hbW.trans ((below_regrown W dq osq).mono hbW.size)
 have s0 := k0 dq osq
 have s1 := k1 dq osq
 have s2 := k2 dq osq
 have s3 := k3 dq osq
 have s4 := k4 dq osq
 have s5 := k5 dq osq
 have s6 := k6 dq osq
 have s7 := k7 dq osq
 have s8 := k8 dq osq
 clear k0 k1 k2 k3 k4 k5 k6 k7 k8 c16 c17 hbW
 show _
 generalize Sort.grow (redrawn W dq) osq = V at *
 try clear W
 rcases hc.out with ⟨hsg, h2, rfl⟩ | ⟨hsg, h2, h3, rfl⟩ | ⟨hsg, h2, h3, hb, rfl⟩ | ⟨hsg, h2, h3, hb, rfl⟩ | ⟨hsg, h2, rfl⟩ | ⟨hsg, h2, h3, rfl⟩ | ⟨hsg, h2, h3, hb, rfl⟩ | ⟨hsg, h2, h3, hb, rfl⟩
 all_goals clear hc
 all_goals (
  have btH : Hid (∀ W, Calls Tryz.prog 174 #[.int .i64 k, .int .i64 1, .int .i64 4] W fun e w' => e = .returned (.bool (betw k 1 4)) ∧ w' = W) := fun W => l2Between_calls _ _ _ W
  generalize betw k 1 4 = bt at *
  go_wp2_with (go_at_call 174; refine (btH.out _).mono ?_; rintro e w' ⟨rfl, he⟩; subst w')
  all_goals (go_ret; exact ⟨rfl, hB⟩))
theorem all_snoc {p : Int → Bool} {l : List Int} {k : Nat} (hk : k < l.length) : (l.take (k + 1)).all p = ((l.take k).all p && p l[k]) := by
 rw [List.take_succ_eq_append_getElem hk, List.all_append]; simp
theorem specSw (k a b size locals : Int) (T C N Y : ByteArray) (v : Value) (zs : List Int) (w : World) (ht : Tab w v zs) (hz : zs.length ≤ 1048576) (hk : keptB 30 k a b T C N Y zs = true) (x : Bool) (hc : Hid ((a < 0 ∧ x = false) ∨ (0 ≤ a ∧ decide (a < size) = false ∧ x = false) ∨ (0 ≤ a ∧ decide (a < size) = true ∧ (wrap32 b == b) = false ∧ x = false) ∨ (0 ≤ a ∧ decide (a < size) = true ∧ (wrap32 b == b) = true ∧ zs.length = 0 ∧ x = false) ∨ (0 ≤ a ∧ decide (a < size) = true ∧ (wrap32 b == b) = true ∧ 0 < zs.length ∧ x = decide ((zs.length : Int) ≤ 100)))) :
  SpecSays 30 k a b T C N Y v size locals w (x && zs.all fun z => wthn z size) := by
 obtain ⟨o, ho1⟩ : ∃ o : Int, o = 30 := ⟨_, rfl⟩
 rw [← ho1] at hk
 show SpecSays 30 k a b T C N Y v size locals w _
 rw [← ho1]
 have x1 : (o == 1) = false := by simp [ho1]
 have x2 : (o == 2) = false := by simp [ho1]
 have x3 : (o == 3) = false := by simp [ho1]
 have x7 : (o == 7) = false := by simp [ho1]
 have x8 : (o == 8) = false := by simp [ho1]
 have x9 : (o == 9) = false := by simp [ho1]
 have x10 : (o == 10) = false := by simp [ho1]
 have x36 : (o == 36) = false := by simp [ho1]
 have x41 : (o == 41) = false := by simp [ho1]
 have x42 : (o == 42) = false := by simp [ho1]
 have x43 : (o == 43) = false := by simp [ho1]
 have x4 : (o == 4) = false := by simp [ho1]
 have x5 : (o == 5) = false := by simp [ho1]
 have x6 : (o == 6) = false := by simp [ho1]
 have x23 : (o == 23) = false := by simp [ho1]
 have x24 : (o == 24) = false := by simp [ho1]
 have x25 : (o == 25) = false := by simp [ho1]
 have x26 : (o == 26) = false := by simp [ho1]
 have x27 : (o == 27) = false := by simp [ho1]
 have x28 : (o == 28) = false := by simp [ho1]
 have x29 : (o == 29) = false := by simp [ho1]
 have x30 : (o == 30) = true := by simp [ho1]
 clear ho1
 obtain ⟨r, hr⟩ : ∃ r, (x && zs.all fun z => wthn z size) = r := ⟨_, rfl⟩
 rw [hr]
 have hrH : Hid ((x && zs.all fun z => wthn z size) = r) := hr
 clear hr
 have c16' : ∀ W, Below w.heap.size w W → Calls Tryz.prog 202 #[insV o k a b T C N Y v, onlyV o k a b T C N Y v] W fun e w' => e = .returned (.bool true) ∧ Below W.heap.size W w' := fun W hW => by
  have := sameOnly_calls o k a b T C N Y v zs W (ht.kept hW) hz
  rwa [hk] at this
 obtain ⟨ta, c, hv⟩ := ht.form
 subst hv
 obtain ⟨n, hn⟩ : ∃ n, n = zs.length := ⟨_, rfl⟩
 have hnH : Hid (n = zs.length) := hn
 rw [← hn] at c16' ht hz ⊢
 clear hn
 obtain ⟨ov, hov⟩ : ∃ ov, onlyV o k a b T C N Y (.slice ta n c) = ov := ⟨_, rfl⟩
 have c17' : ∀ W, Calls Tryz.prog 203 #[insV o k a b T C N Y (.slice ta n c)] W fun e w' => e = .returned ov ∧ Below W.heap.size W w' := fun W => by
  rw [← hov]; exact only_calls o k a b T C N Y ta n c W
 rw [hov] at c16'
 clear hov hk
 go_enter Tryz.func190, Tryz.ntmps190
 go_wp2_with fail
 obtain ⟨W, hW⟩ : ∃ W : World, W = w.alloc (.cells #[.int .i64 o, .int .i64 k, .int .i64 a, .int .i64 b, .string T, .string C, .string N, .string Y, .slice ta n c] 110) := ⟨_, rfl⟩
 rw [← hW]
 have hbW : Below w.heap.size w W := by rw [hW]; exact below1 _ _
 have hS := startI hW
 obtain ⟨s0, s1, s2, s3, s4, s5, s6, s7, s8⟩ := hS
 have k0 := cell_regrown s0
 have k1 := cell_regrown s1
 have k2 := cell_regrown s2
 have k3 := cell_regrown s3
 have k4 := cell_regrown s4
 have k5 := cell_regrown s5
 have k6 := cell_regrown s6
 have k7 := cell_regrown s7
 have k8 := cell_regrown s8
 have c17 : ∀ d os, Calls Tryz.prog 203 #[insV o k a b T C N Y (.slice ta n c)] (Sort.grow (redrawn W d) os) fun e w'' => e = .returned ov ∧ ∃ p : Regrown, w'' = Sort.grow (redrawn W p.d) p.os := fun d os => Calls.regrown_of (c17' _)
 have c16 : ∀ d os, Calls Tryz.prog 202 #[insV o k a b T C N Y (.slice ta n c), ov] (Sort.grow (redrawn W d) os) fun e w'' => e = .returned (.bool true) ∧ ∃ p : Regrown, w'' = Sort.grow (redrawn W p.d) p.os := fun d os => Calls.regrown_of (c16' _ (hbW.trans ((below_regrown W d os).mono hbW.size)))
 clear hW c17' c16' s0 s1 s2 s3 s4 s5 s6 s7 s8
 refine wp_region_quiet_below (by kernel_rfl) (by kernel_rfl) ?_
 repeat (quiet_step (first | exact c17 _ _ | exact c16 _ _))
 refine wpQuiet_nil ?_
 intro _ hw'
 obtain ⟨⟨dq, osq⟩, hw''⟩ := hw'
 subst hw''
 have hB : Below w.heap.size w (Sort.grow (redrawn W dq) osq) := hbW.trans ((below_regrown W dq osq).mono hbW.size)
 have s0 := k0 dq osq
 have s1 := k1 dq osq
 have s2 := k2 dq osq
 have s3 := k3 dq osq
 have s4 := k4 dq osq
 have s5 := k5 dq osq
 have s6 := k6 dq osq
 have s7 := k7 dq osq
 have s8 := k8 dq osq
 clear k0 k1 k2 k3 k4 k5 k6 k7 k8 c16 c17 hbW
 show _
 generalize Sort.grow (redrawn W dq) osq = V at *
 have htV := ht.kept hB
 have cellH : Hid (∀ j (h : j < zs.length), ∃ g, ta = some ⟨g, 0, none⟩ ∧ V.cell? ⟨g, j, none⟩ = some (.int .i64 zs[j])) := fun j hj => Tab.cells (by rw [← hnH.out]; exact htV) j hj
 clear ht htV
 try clear W
 have hBH : Hid (Below w.heap.size w V) := hB
 have m3 := cell_regrown s3
 have m8 := cell_regrown s8
 have c19 : ∀ d os, Calls Tryz.prog 204 #[.int .i64 b] (Sort.grow (redrawn V d) os) fun e w'' => e = .returned (.int .i64 (wrap32 b)) ∧ ∃ p : Regrown, w'' = Sort.grow (redrawn V p.d) p.os := fun d os => Calls.regrown_of (same_below (specWrap_calls b _))
 rcases hc.out with ⟨ha, hx⟩ | ⟨ha, ht7, hx⟩ | ⟨ha, ht7, hw, hx⟩ | ⟨ha, ht7, hw, hn0, hx⟩ | ⟨ha, ht7, hw, hn0, hx⟩
 all_goals clear hc
 all_goals first
  | (have hn1 : decide ((0 : Int) < (n : Int)) = true := by rw [← hnH.out] at hn0; simp; omega
     have hn2 : decide (0 < n) = true := by rw [← hnH.out] at hn0; simp; omega
     have hxd : decide ((n : Int) ≤ 100) = x := by rw [hx, hnH.out]
     clear hn0 hx)
  | (have hn1 : decide ((0 : Int) < (n : Int)) = false := by rw [← hnH.out] at hn0; simp; omega
     have hn2 : decide (0 < n) = false := by rw [← hnH.out] at hn0; simp; omega
     have hxf : Hid (false = x) := hx.symm
     clear hn0 hx)
  | (have hxf : Hid (false = x) := hx.symm
     clear hx)
 all_goals (
  have btH : Hid (∀ W, Calls Tryz.prog 174 #[.int .i64 k, .int .i64 1, .int .i64 4] W fun e w' => e = .returned (.bool (betw k 1 4)) ∧ w' = W) := fun W => l2Between_calls _ _ _ W
  generalize betw k 1 4 = bt at *
  go_wp2_with (go_at_call 174; refine (btH.out _).mono ?_; rintro e w' ⟨rfl, he⟩; subst w')
  refine wp_region_quiet_below (by kernel_rfl) (by kernel_rfl) ?_
  repeat (first | go_big_quiet_step (first | exact c19 _ _) | quiet_step (first | exact c19 _ _))
  refine wpQuiet_nil ?_
  intro _ hw'
  obtain ⟨⟨dq2, osq2⟩, hw''⟩ := hw'
  subst hw''
  have hbV := below_regrown V dq2 osq2
  have t8 := m8 dq2 osq2
  obtain ⟨U, hU⟩ : ∃ U, U = Sort.grow (redrawn V dq2) osq2 := ⟨_, rfl⟩
  have cellU : Hid (∀ j (h : j < zs.length), ∃ g, ta = some ⟨g, 0, none⟩ ∧ U.cell? ⟨g, j, none⟩ = some (.int .i64 zs[j])) := fun j hj => by
   obtain ⟨g, hg, hc⟩ := cellH.out j hj
   exact ⟨g, hg, by rw [hU]; exact cell_regrown hc dq2 osq2⟩
  rw [← hU] at hbV t8 ⊢
  have hBU : Hid (Below w.heap.size w U) := hB.trans (hbV.mono hB.size)
  clear hU m3 m8 c19 btH hB hbV s0 s1 s2 s3 s4 s5 s6 s7 s8 cellH hBH
  have hrH2 : Hid ((x && zs.all fun z => wthn z size) = r) := hrH
  clear hrH
  try rw [hxd]
  try clear hxd
  go_wp2
  go_loop [12, 13] (fun ok i => ∃ j : Nat, j ≤ n ∧ i = .int .i64 j ∧ ok = .bool (x && (zs.take j).all fun z => wthn z size)) (fun _ i => n - (intOf i).toNat)
  case atStart => exact ⟨0, Nat.zero_le _, rfl, by first | (rw [← hxf.out]; rfl) | simp⟩
  case round =>
   obtain ⟨j, hj, rfl, rfl⟩ := hrel
   by_cases hlt : j < n
   ·have hltz : j < zs.length := by rw [← hnH.out]; exact hlt
    obtain ⟨g, rfl, hcell⟩ := cellU.out j hltz
    have hlt' : (j : Int) < (n : Int) := by omega
    obtain ⟨z, hz1⟩ : ∃ z, z = zs[j] := ⟨_, rfl⟩
    rw [← hz1] at hcell
    have hst : Hid ((zs.take (j + 1)).all (fun z => wthn z size) = ((zs.take j).all (fun z => wthn z size) && wthn z size)) := by show _ = _; rw [all_snoc hltz, ← hz1]
    clear hz1
    obtain ⟨y, hy⟩ : ∃ y : Bool, (x && (zs.take j).all fun z => wthn z size) = y := ⟨_, rfl⟩
    have hyH : Hid ((x && (zs.take j).all fun z => wthn z size) = y) := hy
    rw [hy]
    clear hy
    cases y with
    | false =>
     go_wp2
     go_round
     case rel => exact ⟨j + 1, by omega, by go_num, by rw [hst.out, ← Bool.and_assoc, hyH.out]; rfl⟩
     case measure => simp [intOf]; omega
    | true =>
     by_cases hz0 : 0 ≤ z
     ·go_wp2
      go_round
      case rel => exact ⟨j + 1, by omega, by go_num, by rw [hst.out, ← Bool.and_assoc, hyH.out]; simp [wthn, hz0]⟩
      case measure => simp [intOf]; omega
     ·have hz0' : decide (0 ≤ z) = false := by simpa using hz0
      go_wp2
      go_round
      case rel => exact ⟨j + 1, by omega, by go_num, by rw [hst.out, ← Bool.and_assoc, hyH.out]; simp [wthn, hz0]⟩
      case measure => simp [intOf]; omega
   ·have hall : Hid ((x && (zs.take j).all fun z => wthn z size) = r) := by
     show _ = _
     rw [← hrH2.out, List.take_of_length_le (by rw [← hnH.out]; omega)]
    rw [hall.out]
    go_wp2
    go_ret
    exact ⟨rfl, hBU.out⟩)
theorem specOne_a (k a b size locals : Int) (T C N Y : ByteArray) (v : Value) (zs : List Int) (w : World) (ht : Tab w v zs) (hz : zs.length ≤ 1048576) (hk : keptB 1 k a b T C N Y zs = true) (h1 : (k == 1) = true) (hw : (wrap32 a == a) = true) :
  SpecSays 1 k a b T C N Y v size locals w true := specOne1 k a b size locals T C N Y v zs w ht hz hk _ (.inl ⟨h1, hw, rfl⟩)
theorem specOne_b (k a b size locals : Int) (T C N Y : ByteArray) (v : Value) (zs : List Int) (w : World) (ht : Tab w v zs) (hz : zs.length ≤ 1048576) (hk : keptB 1 k a b T C N Y zs = true) (h1 : (k == 1) = true) (hw : (wrap32 a == a) = false) (h2 : (k == 2) = false) (h3 : (k == 3) = false) :
  SpecSays 1 k a b T C N Y v size locals w false := specOne1 k a b size locals T C N Y v zs w ht hz hk _ (.inr (⟨h1, hw, h2, h3, rfl⟩))
theorem specOne_c (k a b size locals : Int) (T C N Y : ByteArray) (v : Value) (zs : List Int) (w : World) (ht : Tab w v zs) (hz : zs.length ≤ 1048576) (hk : keptB 1 k a b T C N Y zs = true) (h1 : (k == 1) = false) (h2 : (k == 2) = true) :
  SpecSays 1 k a b T C N Y v size locals w true := specOne2 k a b size locals T C N Y v zs w ht hz hk _ (.inl ⟨h1, h2, rfl⟩)
theorem specOne_d (k a b size locals : Int) (T C N Y : ByteArray) (v : Value) (zs : List Int) (w : World) (ht : Tab w v zs) (hz : zs.length ≤ 1048576) (hk : keptB 1 k a b T C N Y zs = true) (h1 : (k == 1) = false) (h2 : (k == 2) = false) (h3 : (k == 3) = true) (ho : decide (openC a < 2) = true) :
  SpecSays 1 k a b T C N Y v size locals w true := specOne2 k a b size locals T C N Y v zs w ht hz hk _ (.inr (.inl ⟨h1, h2, h3, ho, rfl⟩))
theorem specOne_e (k a b size locals : Int) (T C N Y : ByteArray) (v : Value) (zs : List Int) (w : World) (ht : Tab w v zs) (hz : zs.length ≤ 1048576) (hk : keptB 1 k a b T C N Y zs = true) (h1 : (k == 1) = false) (h2 : (k == 2) = false) (h3 : (k == 3) = true) (ho : decide (openC a < 2) = false) :
  SpecSays 1 k a b T C N Y v size locals w (a == 9221120237041090560) := specOne2 k a b size locals T C N Y v zs w ht hz hk _ (.inr (.inr (.inl ⟨h1, h2, h3, ho, rfl⟩)))
theorem specOne_f (k a b size locals : Int) (T C N Y : ByteArray) (v : Value) (zs : List Int) (w : World) (ht : Tab w v zs) (hz : zs.length ≤ 1048576) (hk : keptB 1 k a b T C N Y zs = true) (h1 : (k == 1) = false) (h2 : (k == 2) = false) (h3 : (k == 3) = false) :
  SpecSays 1 k a b T C N Y v size locals w false := specOne2 k a b size locals T C N Y v zs w ht hz hk _ (.inr (.inr (.inr (⟨h1, h2, h3, rfl⟩))))
theorem specCmp_ap (k a b size locals : Int) (T C N Y : ByteArray) (v : Value) (zs : List Int) (w : World) (ht : Tab w v zs) (hz : zs.length ≤ 1048576) (hk : keptB 23 k a b T C N Y zs = true) (hsg : 0 ≤ a) (h2 : (k == 2) = true) :
  SpecSays 23 k a b T C N Y v size locals w true := specCmp k a b size locals T C N Y v zs w ht hz hk _ (.inl ⟨hsg, h2, rfl⟩)
theorem specCmp_bp (k a b size locals : Int) (T C N Y : ByteArray) (v : Value) (zs : List Int) (w : World) (ht : Tab w v zs) (hz : zs.length ≤ 1048576) (hk : keptB 23 k a b T C N Y zs = true) (hsg : 0 ≤ a) (h2 : (k == 2) = false) (h3 : (k == 3) = false) :
  SpecSays 23 k a b T C N Y v size locals w false := specCmp k a b size locals T C N Y v zs w ht hz hk _ (.inr (.inl ⟨hsg, h2, h3, rfl⟩))
theorem specCmp_cp (k a b size locals : Int) (T C N Y : ByteArray) (v : Value) (zs : List Int) (w : World) (ht : Tab w v zs) (hz : zs.length ≤ 1048576) (hk : keptB 23 k a b T C N Y zs = true) (hsg : 0 ≤ a) (h2 : (k == 2) = false) (h3 : (k == 3) = true) (hb : (b == -1) = true) :
  SpecSays 23 k a b T C N Y v size locals w true := specCmp k a b size locals T C N Y v zs w ht hz hk _ (.inr (.inr (.inl ⟨hsg, h2, h3, hb, rfl⟩)))
theorem specCmp_dp (k a b size locals : Int) (T C N Y : ByteArray) (v : Value) (zs : List Int) (w : World) (ht : Tab w v zs) (hz : zs.length ≤ 1048576) (hk : keptB 23 k a b T C N Y zs = true) (hsg : 0 ≤ a) (h2 : (k == 2) = false) (h3 : (k == 3) = true) (hb : (b == -1) = false) :
  SpecSays 23 k a b T C N Y v size locals w (b == 1) := specCmp k a b size locals T C N Y v zs w ht hz hk _ (.inr (.inr (.inr (.inl ⟨hsg, h2, h3, hb, rfl⟩))))
theorem specCmp_an (k a b size locals : Int) (T C N Y : ByteArray) (v : Value) (zs : List Int) (w : World) (ht : Tab w v zs) (hz : zs.length ≤ 1048576) (hk : keptB 23 k a b T C N Y zs = true) (hsg : a < 0) (h2 : (k == 2) = true) :
  SpecSays 23 k a b T C N Y v size locals w true := specCmp k a b size locals T C N Y v zs w ht hz hk _ (.inr (.inr (.inr (.inr (.inl ⟨hsg, h2, rfl⟩)))))
theorem specCmp_bn (k a b size locals : Int) (T C N Y : ByteArray) (v : Value) (zs : List Int) (w : World) (ht : Tab w v zs) (hz : zs.length ≤ 1048576) (hk : keptB 23 k a b T C N Y zs = true) (hsg : a < 0) (h2 : (k == 2) = false) (h3 : (k == 3) = false) :
  SpecSays 23 k a b T C N Y v size locals w false := specCmp k a b size locals T C N Y v zs w ht hz hk _ (.inr (.inr (.inr (.inr (.inr (.inl ⟨hsg, h2, h3, rfl⟩))))))
theorem specCmp_cn (k a b size locals : Int) (T C N Y : ByteArray) (v : Value) (zs : List Int) (w : World) (ht : Tab w v zs) (hz : zs.length ≤ 1048576) (hk : keptB 23 k a b T C N Y zs = true) (hsg : a < 0) (h2 : (k == 2) = false) (h3 : (k == 3) = true) (hb : (b == -1) = true) :
  SpecSays 23 k a b T C N Y v size locals w true := specCmp k a b size locals T C N Y v zs w ht hz hk _ (.inr (.inr (.inr (.inr (.inr (.inr (.inl ⟨hsg, h2, h3, hb, rfl⟩)))))))
theorem specCmp_dn (k a b size locals : Int) (T C N Y : ByteArray) (v : Value) (zs : List Int) (w : World) (ht : Tab w v zs) (hz : zs.length ≤ 1048576) (hk : keptB 23 k a b T C N Y zs = true) (hsg : a < 0) (h2 : (k == 2) = false) (h3 : (k == 3) = true) (hb : (b == -1) = false) :
  SpecSays 23 k a b T C N Y v size locals w (b == 1) := specCmp k a b size locals T C N Y v zs w ht hz hk _ (.inr (.inr (.inr (.inr (.inr (.inr (.inr (⟨hsg, h2, h3, hb, rfl⟩))))))))
theorem specSw_a (k a b size locals : Int) (T C N Y : ByteArray) (v : Value) (zs : List Int) (w : World) (ht : Tab w v zs) (hz : zs.length ≤ 1048576) (hk : keptB 30 k a b T C N Y zs = true) (ha : a < 0) :
  SpecSays 30 k a b T C N Y v size locals w (false && zs.all fun z => wthn z size) := specSw k a b size locals T C N Y v zs w ht hz hk _ (.inl ⟨ha, rfl⟩)
theorem specSw_b (k a b size locals : Int) (T C N Y : ByteArray) (v : Value) (zs : List Int) (w : World) (ht : Tab w v zs) (hz : zs.length ≤ 1048576) (hk : keptB 30 k a b T C N Y zs = true) (ha : 0 ≤ a) (ht7 : decide (a < size) = false) :
  SpecSays 30 k a b T C N Y v size locals w (false && zs.all fun z => wthn z size) := specSw k a b size locals T C N Y v zs w ht hz hk _ (.inr (.inl ⟨ha, ht7, rfl⟩))
theorem specSw_c (k a b size locals : Int) (T C N Y : ByteArray) (v : Value) (zs : List Int) (w : World) (ht : Tab w v zs) (hz : zs.length ≤ 1048576) (hk : keptB 30 k a b T C N Y zs = true) (ha : 0 ≤ a) (ht7 : decide (a < size) = true) (hw : (wrap32 b == b) = false) :
  SpecSays 30 k a b T C N Y v size locals w (false && zs.all fun z => wthn z size) := specSw k a b size locals T C N Y v zs w ht hz hk _ (.inr (.inr (.inl ⟨ha, ht7, hw, rfl⟩)))
theorem specSw_e (k a b size locals : Int) (T C N Y : ByteArray) (v : Value) (zs : List Int) (w : World) (ht : Tab w v zs) (hz : zs.length ≤ 1048576) (hk : keptB 30 k a b T C N Y zs = true) (ha : 0 ≤ a) (ht7 : decide (a < size) = true) (hw : (wrap32 b == b) = true) (hn0 : zs.length = 0) :
  SpecSays 30 k a b T C N Y v size locals w (false && zs.all fun z => wthn z size) := specSw k a b size locals T C N Y v zs w ht hz hk _ (.inr (.inr (.inr (.inl ⟨ha, ht7, hw, hn0, rfl⟩))))
theorem specSw_d (k a b size locals : Int) (T C N Y : ByteArray) (v : Value) (zs : List Int) (w : World) (ht : Tab w v zs) (hz : zs.length ≤ 1048576) (hk : keptB 30 k a b T C N Y zs = true) (ha : 0 ≤ a) (ht7 : decide (a < size) = true) (hw : (wrap32 b == b) = true) (hn0 : 0 < zs.length) :
  SpecSays 30 k a b T C N Y v size locals w (decide ((zs.length : Int) ≤ 100) && zs.all fun z => wthn z size) := specSw k a b size locals T C N Y v zs w ht hz hk _ (.inr (.inr (.inr (.inr (⟨ha, ht7, hw, hn0, rfl⟩)))))
end Go.Proofs.YtjjccimeikkogaaGreatDoor
