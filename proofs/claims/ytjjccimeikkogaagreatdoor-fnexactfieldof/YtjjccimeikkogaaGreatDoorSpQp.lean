import Derived.Test.YtjjccimeikkogaaGreatDoorSpF
namespace Go.Proofs.YtjjccimeikkogaaGreatDoor
set_option linter.unusedVariables false
open Go.ChangeShapes Go.WideShapes Go.ChangeAt Go.RowKit
def QZ (o : Int) : Prop := o ≠ 1 ∧ o ≠ 23 ∧ o ≠ 30
set_option maxRecDepth 1000000 in
set_option maxHeartbeats 40000000 in
theorem spec_Qp (o k a b size locals : Int) (T C N Y : ByteArray) (v : Value) (zs : List Int) (w : World) (ht : Tab w v zs) (hz : zs.length ≤ 1048576) (hT : T.size ≤ 1048576) (hC : C.size ≤ 1048576) (hN : N.size ≤ 1048576) (hY : Y.size ≤ 1048576) (hk : keptB o k a b T C N Y zs = true) (hS : QZ o) (hsg : 0 ≤ a) :
  SpecSays o k a b T C N Y v size locals w (contS o k a b T C N Y zs size locals) := by
 obtain ⟨r, hr⟩ : ∃ r, contS o k a b T C N Y zs size locals = r := ⟨_, rfl⟩
 rw [hr]
 have hrH : Hid (contS o k a b T C N Y zs size locals = r) := hr
 have hSH : Hid (QZ o) := hS
 have hkH : Hid (keptB o k a b T C N Y zs = true) := hk
 have nameH : Hid (∀ (s : ByteArray) (W : World), s.size ≤ 1048576 → Calls Tryz.prog 90 #[.string s] W fun e w' => e = .returned (.bool (nameOk s.data.toList)) ∧ w' = W) := fun s W hs => specName_calls s W (by omega)
 obtain ⟨Z, hZ⟩ : ∃ Z : ByteArray, Z = ⟨#[91]⟩ ++ Y := ⟨_, rfl⟩
 have hZl : Z.data.toList = 91 :: Y.data.toList := by rw [hZ]; simp
 have hZs : Z.size ≤ 1048577 := by rw [← toList_size, hZl]; have := toList_size Y; simp; omega
 have typeH : Hid (∀ (s : ByteArray) (W : World), s.size ≤ 1048577 → Calls Tryz.prog 61 #[.string s] W fun e w' => e = .returned (.bool (typeL s.data.toList)) ∧ w' = W) := fun s W hs => specType_calls s W (by omega)
 have sigH : Hid (∀ W, Calls Tryz.prog 173 #[.string Y] W fun e w' => e = .returned (.bool (sigOk Y.data.toList)) ∧ Below W.heap.size W w') := fun W => specSigOk_calls Y W (by omega)
 have kindH : Hid (∀ W, Calls Tryz.prog 91 #[.string Y] W fun e w' => e = .returned (.int .i64 (kindL Y.data.toList)) ∧ w' = W) := fun W => specKind_calls Y W (by omega)
 have hY' : Y.size ≤ 1048577 := by omega
 have hZH : Hid (Z.data.toList = 91 :: Y.data.toList) := hZl
 have hzH : Hid (zs.length = zs.length) := rfl
 clear hr hS hZl hT
 have c16' : ∀ W, Below w.heap.size w W → Calls Tryz.prog 202 #[insV o k a b T C N Y v, onlyV o k a b T C N Y v] W fun e w' => e = .returned (.bool true) ∧ Below W.heap.size W w' := fun W hW => by
  have := sameOnly_calls o k a b T C N Y v zs W (ht.kept hW) hz
  rwa [hk] at this
 obtain ⟨ta, c, hv⟩ := ht.form
 subst hv
 obtain ⟨n, hn⟩ : ∃ n, zs.length = n := ⟨_, rfl⟩
 rw [hn] at c16' ⊢
 clear hn
 obtain ⟨ov, hov⟩ : ∃ ov, onlyV o k a b T C N Y (.slice ta n c) = ov := ⟨_, rfl⟩
 have c17' : ∀ W, Calls Tryz.prog 203 #[insV o k a b T C N Y (.slice ta n c)] W fun e w' => e = .returned ov ∧ Below W.heap.size W w' := fun W => by
  rw [← hov]; exact only_calls o k a b T C N Y ta n c W
 rw [hov] at c16'
 clear hov hk ht hz
 go_enter Tryz.func190, Tryz.ntmps190
 go_wp2_with fail
 obtain ⟨W, hW⟩ : ∃ W : World, W = w.alloc (.cells #[.int .i64 o, .int .i64 k, .int .i64 a, .int .i64 b, .string T, .string C, .string N, .string Y, .slice ta n c] 110) := ⟨_, rfl⟩
 rw [← hW]
 have hbW : Below w.heap.size w W := by rw [hW]; exact below1 _ _
 have hS := startI hW
 obtain ⟨s0, s1, s2, s3, s4, s5, s6, s7, s8⟩ := hS
 have k0 := cell_regrown s0
 have k1 := cell_regrown s1
 have k2 := cell_regrown s2
 have k3 := cell_regrown s3
 have k4 := cell_regrown s4
 have k5 := cell_regrown s5
 have k6 := cell_regrown s6
 have k7 := cell_regrown s7
 have k8 := cell_regrown s8
 have c17 : ∀ d os, Calls Tryz.prog 203 #[insV o k a b T C N Y (.slice ta n c)] (Sort.grow (redrawn W d) os) fun e w'' => e = .returned ov ∧ ∃ p : Regrown, w'' = Sort.grow (redrawn W p.d) p.os := fun d os => Calls.regrown_of (c17' _)
 have c16 : ∀ d os, Calls Tryz.prog 202 #[insV o k a b T C N Y (.slice ta n c), ov] (Sort.grow (redrawn W d) os) fun e w'' => e = .returned (.bool true) ∧ ∃ p : Regrown, w'' = Sort.grow (redrawn W p.d) p.os := fun d os => Calls.regrown_of (c16' _ (hbW.trans ((below_regrown W d os).mono hbW.size)))
 clear hW c17' c16' s0 s1 s2 s3 s4 s5 s6 s7 s8
 refine wp_region_quiet_below (by kernel_rfl) (by kernel_rfl) ?_
 repeat (quiet_step (first | exact c17 _ _ | exact c16 _ _))
 refine wpQuiet_nil ?_
 intro _ hw'
 obtain ⟨⟨dq, osq⟩, hw''⟩ := hw'
 subst hw''
 have hB : Below w.heap.size w (Sort.grow (redrawn W dq) osq) := hbW.trans ((below_regrown W dq osq).mono hbW.size)
 have s0 := k0 dq osq
 have s1 := k1 dq osq
 have s2 := k2 dq osq
 have s3 := k3 dq osq
 have s4 := k4 dq osq
 have s5 := k5 dq osq
 have s6 := k6 dq osq
 have s7 := k7 dq osq
 have s8 := k8 dq osq
 clear k0 k1 k2 k3 k4 k5 k6 k7 k8 c16 c17 hbW
 show _
 generalize Sort.grow (redrawn W dq) osq = V at *
 try clear W
 go_wp2_with (first
  | (exact (no_way hSH ‹(o == _) = true› (by unfold QZ; omega)).elim)
  | (go_at_call 174; refine (l2Between_calls _ _ _ _).mono ?_; rintro e w' ⟨rfl, he⟩; subst he)
  | (go_at_call 90; refine (nameH.out _ _ (by assumption)).mono ?_; rintro e w' ⟨rfl, he⟩; subst he)
  | (go_at_call 61; rw [← hZ]; refine (typeH.out _ _ hZs).mono ?_; rintro e w' ⟨rfl, he⟩; subst he)
  | (go_at_call 61; refine (typeH.out _ _ hY').mono ?_; rintro e w' ⟨rfl, he⟩; subst he)
  | (go_at_call 173; refine (sigH.out _).mono ?_; rintro e w1 ⟨rfl, hb1⟩; have q3 : w1.cell? ⟨w.heap.size, 3, none⟩ = some (.int .i64 b) := keep1 (by assumption) hb1)
  | (go_at_call 91; refine (kindH.out _).mono ?_; rintro e w' ⟨rfl, he⟩; subst he)
  | (go_at_call 206; refine (specConv_calls _ _ _).mono ?_; rintro e w1 ⟨⟨x, rfl⟩, hb1⟩)
  | (go_at_call 207; refine (flop_calls _ _).mono ?_; rintro e w1 ⟨⟨x, rfl⟩, hb1⟩; have q1 : w1.cell? ⟨w.heap.size, 1, none⟩ = some (.int .i64 k) := keep1 (by assumption) hb1))
 all_goals first | (exact (no_way hSH ‹(o == _) = true› (by unfold QZ; omega)).elim) | (
  go_ret
  refine ⟨?_, by first | exact hB | exact below_below hB (by assumption)⟩
  go_light
  rw [← hrH.out]
  have hZl := hZH.out
  have hS := hSH.out
  unfold QZ at hS
  clear hSH hkH hzH
  clear nameH typeH sigH kindH hrH hZH hZ hZs hC hN hY hY'
  simp only [beq_iff_eq, beq_eq_false_iff_ne, ne_eq] at *
  first
   | (exfalso; omega)
   | (subst_vars; unfold contS; (try unfold wthn); (try unfold flop); simp_all; done)
   | (unfold contS
      repeat (first | rw [if_neg (by omega)] | rw [if_pos (by omega)])
      first | done | rfl | ((try unfold wthn); (try unfold flop); simp_all; done))
   | (subst_vars; unfold contS; (try unfold wthn); (try unfold flop); simp_all; intros; omega))
end Go.Proofs.YtjjccimeikkogaaGreatDoor
