import Derived.Test.YtjjccimeikkogaaGreatDoorSwitch
set_option maxRecDepth 1000000
set_option maxHeartbeats 8000000
namespace Go.Proofs.YtjjccimeikkogaaGreatDoor
set_option linter.unusedVariables false
open Go.ChangeShapes Go.WideShapes Go.ChangeAt Go.RowKit
theorem contents_A (o k a b size locals : Int) (T C N Y : ByteArray) (v : Value) (zs : List Int) (w : World) (ht : Tab w v zs) (hz : zs.length ≤ 1048576)
  (ha1 : -9223372036854775808 ≤ a) (ha2 : a < 9223372036854775808) (hT : T.size ≤ 1048576) (hC : C.size ≤ 1048576) (hN : N.size ≤ 1048576) (hY : Y.size ≤ 1048576) (hsh : w.ShapedOpen Tryz.prog) (hS : PA o) :
  Calls Tryz.prog 215 #[insV o k a b T C N Y v, .int .i64 size, .int .i64 locals] w fun e w' => e = .returned (.bool (contB o k a b T C N Y zs size locals)) ∧ Below w.heap.size w w' := by
 have jumpH : Hid (∀ W, Below w.heap.size w W → Calls Tryz.prog 239 #[insV o k a b T C N Y v, .int .i64 size] W fun e w' => e = .returned (.bool (jumpB o b size zs)) ∧ Below W.heap.size W w') := fun W hW => jumpOk_calls _ _ _ _ _ _ _ _ _ _ _ W (ht.kept hW) hz
 have nameH : Hid (∀ (s : ByteArray) (W : World), s.size ≤ 1048576 → Calls Tryz.prog 111 #[.string s] W fun e w' => e = .returned (.bool (nameOk s.data.toList)) ∧ Below W.heap.size W w') := fun s W hs => implName_below s W (by omega)
 obtain ⟨Z, hZ⟩ : ∃ Z : ByteArray, Z = ⟨#[91]⟩ ++ Y := ⟨_, rfl⟩
 have hZl : Z.data.toList = 91 :: Y.data.toList := by rw [hZ]; simp
 have hZs : Z.size ≤ 1048577 := by rw [← toList_size, hZl]; have := toList_size Y; simp; omega
 have typeH : Hid (∀ (s : ByteArray) (W : World), s.size ≤ 1048577 → Calls Tryz.prog 179 #[.string s] W fun e w' => e = .returned (.bool (typeL s.data.toList)) ∧ Below W.heap.size W w') := fun s W hs => implType_calls s W (by omega)
 have sigH : Hid (∀ W, Below w.heap.size w W → Calls Tryz.prog 180 #[.string Y] W fun e w' => e = .returned (.bool (sigOk Y.data.toList)) ∧ Below W.heap.size W w') := fun W hW => implSigOk_calls Y W (by omega) (shaped_below hsh hW)
 have kindH : Hid (∀ W, Calls Tryz.prog 92 #[.string Y] W fun e w' => e = .returned (.int .i64 (kindL Y.data.toList)) ∧ Below W.heap.size W w') := fun W => implKind_calls Y W (by omega)
 have constH : Hid (∀ W, Calls Tryz.prog 237 #[.int .i64 k, .int .i64 a] W fun e w' => e = .returned (.bool (constB k a)) ∧ w' = W) := fun W => constOk_calls k a W ha1 ha2
 obtain ⟨ta, c, rfl⟩ := ht.form
 have hY' : Y.size ≤ 1048577 := by omega
 obtain ⟨r, hr⟩ : ∃ r, contB o k a b T C N Y zs size locals = r := ⟨_, rfl⟩
 rw [hr]
 have hrH : Hid (contB o k a b T C N Y zs size locals = r) := hr
 have hZH : Hid (Z.data.toList = 91 :: Y.data.toList) := hZl
 have hSH : Hid (PA o) := hS
 clear hS
 clear ht hsh hz ha1 ha2 hr hZl hT
 go_enter Tryz.func215, Tryz.ntmps215
 go_upto_block 0 with fail
 refine switch16 ?_
 intro R e0 e1 e2 e3 e4 e5 e6 e7 e8 e9 e10 e11 e12 e13 e14 e15 e16
 go_wp2_with fail
 all_goals (try (exact (no_way hSH ‹(o == _) = true› (by unfold PA; omega)).elim))
 all_goals (first | refine e0 _ _ ?_ | refine e1 _ _ ?_ | refine e2 _ _ ?_ | refine e3 _ _ ?_ | refine e4 _ _ ?_ | refine e5 _ _ ?_ | refine e6 _ _ ?_ | refine e7 _ _ ?_ | refine e8 _ _ ?_ | refine e9 _ _ ?_ | refine e10 _ _ ?_ | refine e11 _ _ ?_ | refine e12 _ _ ?_ | refine e13 _ _ ?_ | refine e14 _ _ ?_ | refine e15 _ _ ?_ | refine e16 _ _ ?_ | skip)
 all_goals (try clear e0; try clear e1; try clear e2; try clear e3; try clear e4; try clear e5; try clear e6; try clear e7; try clear e8; try clear e9; try clear e10; try clear e11; try clear e12; try clear e13; try clear e14; try clear e15; try clear e16)
 all_goals (go_wp2_with (first
  | (go_at_call 181; refine (between_calls _ _ _ _).mono ?_; rintro e w' ⟨rfl, he⟩; subst he)
  | (go_at_call 216; refine (within_calls _ _ _).mono ?_; rintro e w' ⟨rfl, he⟩; subst he)
  | (go_at_call 237; refine (constH.out _).mono ?_; rintro e w' ⟨rfl, he⟩; subst he)
  | (go_at_call 238; refine (conv_calls _ _ _).mono ?_; rintro e w' ⟨⟨x, rfl⟩, he⟩; subst he)
  | (go_at_call 239; refine (jumpH.out _ (below1 _ _)).mono ?_; rintro e w1 ⟨rfl, hb1⟩)
  | (go_at_call 111; refine (nameH.out _ _ (by assumption)).mono ?_; rintro e w1 ⟨rfl, hb1⟩; have q3 : w1.cell? ⟨w.heap.size, 3, none⟩ = some (.int .i64 b) := keep1 (by first | assumption | simp) hb1; have q6 : w1.cell? ⟨w.heap.size, 6, none⟩ = some (.string N) := keep1 (by first | assumption | simp) hb1; have q7 : w1.cell? ⟨w.heap.size, 7, none⟩ = some (.string Y) := keep1 (by first | assumption | simp) hb1)
  | (go_at_call 179; rw [← hZ]; refine (typeH.out _ _ hZs).mono ?_; rintro e w1 ⟨rfl, hb1⟩)
  | (go_at_call 179; refine (typeH.out _ _ hY').mono ?_; rintro e w1 ⟨rfl, hb1⟩; have q3 : w1.cell? ⟨w.heap.size, 3, none⟩ = some (.int .i64 b) := keep1 (by first | assumption | simp) hb1; have q6 : w1.cell? ⟨w.heap.size, 6, none⟩ = some (.string N) := keep1 (by first | assumption | simp) hb1; have q7 : w1.cell? ⟨w.heap.size, 7, none⟩ = some (.string Y) := keep1 (by first | assumption | simp) hb1)
  | (go_at_call 180; refine (sigH.out _ (by repeat (first | exact below1 _ _ | refine below_below ?_ (by assumption)))).mono ?_; rintro e w1 ⟨rfl, hb1⟩; have q3 : w1.cell? ⟨w.heap.size, 3, none⟩ = some (.int .i64 b) := keep1 (by first | assumption | simp) hb1; have q6 : w1.cell? ⟨w.heap.size, 6, none⟩ = some (.string N) := keep1 (by first | assumption | simp) hb1; have q7 : w1.cell? ⟨w.heap.size, 7, none⟩ = some (.string Y) := keep1 (by first | assumption | simp) hb1)
  | (go_at_call 92; refine (kindH.out _).mono ?_; rintro e w1 ⟨rfl, hb1⟩)))
 all_goals (try (refine retTo_normal ?_; go_wp2_with (first
   | (go_at_call 181; refine (between_calls _ _ _ _).mono ?_; rintro e w' ⟨rfl, he⟩; subst he)
   | (go_at_call 216; refine (within_calls _ _ _).mono ?_; rintro e w' ⟨rfl, he⟩; subst he)
   | (go_at_call 237; refine (constH.out _).mono ?_; rintro e w' ⟨rfl, he⟩; subst he)
   | (go_at_call 238; refine (conv_calls _ _ _).mono ?_; rintro e w' ⟨⟨x, rfl⟩, he⟩; subst he)
   | (go_at_call 239; refine (jumpH.out _ (below1 _ _)).mono ?_; rintro e w1 ⟨rfl, hb1⟩)
   | (go_at_call 111; refine (nameH.out _ _ (by assumption)).mono ?_; rintro e w1 ⟨rfl, hb1⟩; have q3 : w1.cell? ⟨w.heap.size, 3, none⟩ = some (.int .i64 b) := keep1 (by first | assumption | simp) hb1; have q6 : w1.cell? ⟨w.heap.size, 6, none⟩ = some (.string N) := keep1 (by first | assumption | simp) hb1; have q7 : w1.cell? ⟨w.heap.size, 7, none⟩ = some (.string Y) := keep1 (by first | assumption | simp) hb1)
   | (go_at_call 179; rw [← hZ]; refine (typeH.out _ _ hZs).mono ?_; rintro e w1 ⟨rfl, hb1⟩)
   | (go_at_call 179; refine (typeH.out _ _ hY').mono ?_; rintro e w1 ⟨rfl, hb1⟩; have q3 : w1.cell? ⟨w.heap.size, 3, none⟩ = some (.int .i64 b) := keep1 (by first | assumption | simp) hb1; have q6 : w1.cell? ⟨w.heap.size, 6, none⟩ = some (.string N) := keep1 (by first | assumption | simp) hb1; have q7 : w1.cell? ⟨w.heap.size, 7, none⟩ = some (.string Y) := keep1 (by first | assumption | simp) hb1)
   | (go_at_call 180; refine (sigH.out _ (by repeat (first | exact below1 _ _ | refine below_below ?_ (by assumption)))).mono ?_; rintro e w1 ⟨rfl, hb1⟩; have q3 : w1.cell? ⟨w.heap.size, 3, none⟩ = some (.int .i64 b) := keep1 (by first | assumption | simp) hb1; have q6 : w1.cell? ⟨w.heap.size, 6, none⟩ = some (.string N) := keep1 (by first | assumption | simp) hb1; have q7 : w1.cell? ⟨w.heap.size, 7, none⟩ = some (.string Y) := keep1 (by first | assumption | simp) hb1)
   | (go_at_call 92; refine (kindH.out _).mono ?_; rintro e w1 ⟨rfl, hb1⟩))))
 all_goals (
  first | (refine retOr_ret (then_ret ?_); go_ret) | (refine retTo_ret (then_ret ?_); go_ret) | go_ret
  refine ⟨?_, by repeat (first | exact below1 _ _ | refine below_below ?_ (by assumption))⟩
  go_light
  rw [← hrH.out]
  have hZl := hZH.out
  have hS := hSH.out
  unfold PA at hS
  clear hSH
  clear jumpH nameH typeH sigH kindH constH hrH hZH hZ hZs hC hN hY hY'
  simp only [beq_iff_eq, beq_eq_false_iff_ne, ne_eq] at *
  first
   | (exfalso; omega)
   | (subst_vars; simp_all [contB]; done)
   | (unfold contB
      repeat (first | rw [if_neg (by omega)] | rw [if_pos (by omega)])
      done)
   | (unfold contB
      repeat (first | rw [if_neg (by omega)] | rw [if_pos (by omega)])
      rfl))
theorem contents_B (o k a b size locals : Int) (T C N Y : ByteArray) (v : Value) (zs : List Int) (w : World) (ht : Tab w v zs) (hz : zs.length ≤ 1048576)
  (ha1 : -9223372036854775808 ≤ a) (ha2 : a < 9223372036854775808) (hT : T.size ≤ 1048576) (hC : C.size ≤ 1048576) (hN : N.size ≤ 1048576) (hY : Y.size ≤ 1048576) (hsh : w.ShapedOpen Tryz.prog) (hS : PB o) :
  Calls Tryz.prog 215 #[insV o k a b T C N Y v, .int .i64 size, .int .i64 locals] w fun e w' => e = .returned (.bool (contB o k a b T C N Y zs size locals)) ∧ Below w.heap.size w w' := by
 have jumpH : Hid (∀ W, Below w.heap.size w W → Calls Tryz.prog 239 #[insV o k a b T C N Y v, .int .i64 size] W fun e w' => e = .returned (.bool (jumpB o b size zs)) ∧ Below W.heap.size W w') := fun W hW => jumpOk_calls _ _ _ _ _ _ _ _ _ _ _ W (ht.kept hW) hz
 have nameH : Hid (∀ (s : ByteArray) (W : World), s.size ≤ 1048576 → Calls Tryz.prog 111 #[.string s] W fun e w' => e = .returned (.bool (nameOk s.data.toList)) ∧ Below W.heap.size W w') := fun s W hs => implName_below s W (by omega)
 obtain ⟨Z, hZ⟩ : ∃ Z : ByteArray, Z = ⟨#[91]⟩ ++ Y := ⟨_, rfl⟩
 have hZl : Z.data.toList = 91 :: Y.data.toList := by rw [hZ]; simp
 have hZs : Z.size ≤ 1048577 := by rw [← toList_size, hZl]; have := toList_size Y; simp; omega
 have typeH : Hid (∀ (s : ByteArray) (W : World), s.size ≤ 1048577 → Calls Tryz.prog 179 #[.string s] W fun e w' => e = .returned (.bool (typeL s.data.toList)) ∧ Below W.heap.size W w') := fun s W hs => implType_calls s W (by omega)
 have sigH : Hid (∀ W, Below w.heap.size w W → Calls Tryz.prog 180 #[.string Y] W fun e w' => e = .returned (.bool (sigOk Y.data.toList)) ∧ Below W.heap.size W w') := fun W hW => implSigOk_calls Y W (by omega) (shaped_below hsh hW)
 have kindH : Hid (∀ W, Calls Tryz.prog 92 #[.string Y] W fun e w' => e = .returned (.int .i64 (kindL Y.data.toList)) ∧ Below W.heap.size W w') := fun W => implKind_calls Y W (by omega)
 have constH : Hid (∀ W, Calls Tryz.prog 237 #[.int .i64 k, .int .i64 a] W fun e w' => e = .returned (.bool (constB k a)) ∧ w' = W) := fun W => constOk_calls k a W ha1 ha2
 obtain ⟨ta, c, rfl⟩ := ht.form
 have hY' : Y.size ≤ 1048577 := by omega
 obtain ⟨r, hr⟩ : ∃ r, contB o k a b T C N Y zs size locals = r := ⟨_, rfl⟩
 rw [hr]
 have hrH : Hid (contB o k a b T C N Y zs size locals = r) := hr
 have hZH : Hid (Z.data.toList = 91 :: Y.data.toList) := hZl
 have hSH : Hid (PB o) := hS
 clear hS
 clear ht hsh hz ha1 ha2 hr hZl hT
 go_enter Tryz.func215, Tryz.ntmps215
 go_upto_block 0 with fail
 refine switch16 ?_
 intro R e0 e1 e2 e3 e4 e5 e6 e7 e8 e9 e10 e11 e12 e13 e14 e15 e16
 go_wp2_with fail
 all_goals (try (exact (no_way hSH ‹(o == _) = true› (by unfold PB; omega)).elim))
 all_goals (first | refine e0 _ _ ?_ | refine e1 _ _ ?_ | refine e2 _ _ ?_ | refine e3 _ _ ?_ | refine e4 _ _ ?_ | refine e5 _ _ ?_ | refine e6 _ _ ?_ | refine e7 _ _ ?_ | refine e8 _ _ ?_ | refine e9 _ _ ?_ | refine e10 _ _ ?_ | refine e11 _ _ ?_ | refine e12 _ _ ?_ | refine e13 _ _ ?_ | refine e14 _ _ ?_ | refine e15 _ _ ?_ | refine e16 _ _ ?_ | skip)
 all_goals (try clear e0; try clear e1; try clear e2; try clear e3; try clear e4; try clear e5; try clear e6; try clear e7; try clear e8; try clear e9; try clear e10; try clear e11; try clear e12; try clear e13; try clear e14; try clear e15; try clear e16)
 all_goals (go_wp2_with (first
  | (go_at_call 181; refine (between_calls _ _ _ _).mono ?_; rintro e w' ⟨rfl, he⟩; subst he)
  | (go_at_call 216; refine (within_calls _ _ _).mono ?_; rintro e w' ⟨rfl, he⟩; subst he)
  | (go_at_call 237; refine (constH.out _).mono ?_; rintro e w' ⟨rfl, he⟩; subst he)
  | (go_at_call 238; refine (conv_calls _ _ _).mono ?_; rintro e w' ⟨⟨x, rfl⟩, he⟩; subst he)
  | (go_at_call 239; refine (jumpH.out _ (below1 _ _)).mono ?_; rintro e w1 ⟨rfl, hb1⟩)
  | (go_at_call 111; refine (nameH.out _ _ (by assumption)).mono ?_; rintro e w1 ⟨rfl, hb1⟩; have q3 : w1.cell? ⟨w.heap.size, 3, none⟩ = some (.int .i64 b) := keep1 (by first | assumption | simp) hb1; have q6 : w1.cell? ⟨w.heap.size, 6, none⟩ = some (.string N) := keep1 (by first | assumption | simp) hb1; have q7 : w1.cell? ⟨w.heap.size, 7, none⟩ = some (.string Y) := keep1 (by first | assumption | simp) hb1)
  | (go_at_call 179; rw [← hZ]; refine (typeH.out _ _ hZs).mono ?_; rintro e w1 ⟨rfl, hb1⟩)
  | (go_at_call 179; refine (typeH.out _ _ hY').mono ?_; rintro e w1 ⟨rfl, hb1⟩; have q3 : w1.cell? ⟨w.heap.size, 3, none⟩ = some (.int .i64 b) := keep1 (by first | assumption | simp) hb1; have q6 : w1.cell? ⟨w.heap.size, 6, none⟩ = some (.string N) := keep1 (by first | assumption | simp) hb1; have q7 : w1.cell? ⟨w.heap.size, 7, none⟩ = some (.string Y) := keep1 (by first | assumption | simp) hb1)
  | (go_at_call 180; refine (sigH.out _ (by repeat (first | exact below1 _ _ | refine below_below ?_ (by assumption)))).mono ?_; rintro e w1 ⟨rfl, hb1⟩; have q3 : w1.cell? ⟨w.heap.size, 3, none⟩ = some (.int .i64 b) := keep1 (by first | assumption | simp) hb1; have q6 : w1.cell? ⟨w.heap.size, 6, none⟩ = some (.string N) := keep1 (by first | assumption | simp) hb1; have q7 : w1.cell? ⟨w.heap.size, 7, none⟩ = some (.string Y) := keep1 (by first | assumption | simp) hb1)
  | (go_at_call 92; refine (kindH.out _).mono ?_; rintro e w1 ⟨rfl, hb1⟩)))
 all_goals (try (refine retTo_normal ?_; go_wp2_with (first
   | (go_at_call 181; refine (between_calls _ _ _ _).mono ?_; rintro e w' ⟨rfl, he⟩; subst he)
   | (go_at_call 216; refine (within_calls _ _ _).mono ?_; rintro e w' ⟨rfl, he⟩; subst he)
   | (go_at_call 237; refine (constH.out _).mono ?_; rintro e w' ⟨rfl, he⟩; subst he)
   | (go_at_call 238; refine (conv_calls _ _ _).mono ?_; rintro e w' ⟨⟨x, rfl⟩, he⟩; subst he)
   | (go_at_call 239; refine (jumpH.out _ (below1 _ _)).mono ?_; rintro e w1 ⟨rfl, hb1⟩)
   | (go_at_call 111; refine (nameH.out _ _ (by assumption)).mono ?_; rintro e w1 ⟨rfl, hb1⟩; have q3 : w1.cell? ⟨w.heap.size, 3, none⟩ = some (.int .i64 b) := keep1 (by first | assumption | simp) hb1; have q6 : w1.cell? ⟨w.heap.size, 6, none⟩ = some (.string N) := keep1 (by first | assumption | simp) hb1; have q7 : w1.cell? ⟨w.heap.size, 7, none⟩ = some (.string Y) := keep1 (by first | assumption | simp) hb1)
   | (go_at_call 179; rw [← hZ]; refine (typeH.out _ _ hZs).mono ?_; rintro e w1 ⟨rfl, hb1⟩)
   | (go_at_call 179; refine (typeH.out _ _ hY').mono ?_; rintro e w1 ⟨rfl, hb1⟩; have q3 : w1.cell? ⟨w.heap.size, 3, none⟩ = some (.int .i64 b) := keep1 (by first | assumption | simp) hb1; have q6 : w1.cell? ⟨w.heap.size, 6, none⟩ = some (.string N) := keep1 (by first | assumption | simp) hb1; have q7 : w1.cell? ⟨w.heap.size, 7, none⟩ = some (.string Y) := keep1 (by first | assumption | simp) hb1)
   | (go_at_call 180; refine (sigH.out _ (by repeat (first | exact below1 _ _ | refine below_below ?_ (by assumption)))).mono ?_; rintro e w1 ⟨rfl, hb1⟩; have q3 : w1.cell? ⟨w.heap.size, 3, none⟩ = some (.int .i64 b) := keep1 (by first | assumption | simp) hb1; have q6 : w1.cell? ⟨w.heap.size, 6, none⟩ = some (.string N) := keep1 (by first | assumption | simp) hb1; have q7 : w1.cell? ⟨w.heap.size, 7, none⟩ = some (.string Y) := keep1 (by first | assumption | simp) hb1)
   | (go_at_call 92; refine (kindH.out _).mono ?_; rintro e w1 ⟨rfl, hb1⟩))))
 all_goals (
  first | (refine retOr_ret (then_ret ?_); go_ret) | (refine retTo_ret (then_ret ?_); go_ret) | go_ret
  refine ⟨?_, by repeat (first | exact below1 _ _ | refine below_below ?_ (by assumption))⟩
  go_light
  rw [← hrH.out]
  have hZl := hZH.out
  have hS := hSH.out
  unfold PB at hS
  clear hSH
  clear jumpH nameH typeH sigH kindH constH hrH hZH hZ hZs hC hN hY hY'
  simp only [beq_iff_eq, beq_eq_false_iff_ne, ne_eq] at *
  first
   | (exfalso; omega)
   | (subst_vars; simp_all [contB]; done)
   | (unfold contB
      repeat (first | rw [if_neg (by omega)] | rw [if_pos (by omega)])
      done)
   | (unfold contB
      repeat (first | rw [if_neg (by omega)] | rw [if_pos (by omega)])
      rfl))
theorem contents_C (o k a b size locals : Int) (T C N Y : ByteArray) (v : Value) (zs : List Int) (w : World) (ht : Tab w v zs) (hz : zs.length ≤ 1048576)
  (ha1 : -9223372036854775808 ≤ a) (ha2 : a < 9223372036854775808) (hT : T.size ≤ 1048576) (hC : C.size ≤ 1048576) (hN : N.size ≤ 1048576) (hY : Y.size ≤ 1048576) (hsh : w.ShapedOpen Tryz.prog) (hS : PC o) :
  Calls Tryz.prog 215 #[insV o k a b T C N Y v, .int .i64 size, .int .i64 locals] w fun e w' => e = .returned (.bool (contB o k a b T C N Y zs size locals)) ∧ Below w.heap.size w w' := by
 have jumpH : Hid (∀ W, Below w.heap.size w W → Calls Tryz.prog 239 #[insV o k a b T C N Y v, .int .i64 size] W fun e w' => e = .returned (.bool (jumpB o b size zs)) ∧ Below W.heap.size W w') := fun W hW => jumpOk_calls _ _ _ _ _ _ _ _ _ _ _ W (ht.kept hW) hz
 have nameH : Hid (∀ (s : ByteArray) (W : World), s.size ≤ 1048576 → Calls Tryz.prog 111 #[.string s] W fun e w' => e = .returned (.bool (nameOk s.data.toList)) ∧ Below W.heap.size W w') := fun s W hs => implName_below s W (by omega)
 obtain ⟨Z, hZ⟩ : ∃ Z : ByteArray, Z = ⟨#[91]⟩ ++ Y := ⟨_, rfl⟩
 have hZl : Z.data.toList = 91 :: Y.data.toList := by rw [hZ]; simp
 have hZs : Z.size ≤ 1048577 := by rw [← toList_size, hZl]; have := toList_size Y; simp; omega
 have typeH : Hid (∀ (s : ByteArray) (W : World), s.size ≤ 1048577 → Calls Tryz.prog 179 #[.string s] W fun e w' => e = .returned (.bool (typeL s.data.toList)) ∧ Below W.heap.size W w') := fun s W hs => implType_calls s W (by omega)
 have sigH : Hid (∀ W, Below w.heap.size w W → Calls Tryz.prog 180 #[.string Y] W fun e w' => e = .returned (.bool (sigOk Y.data.toList)) ∧ Below W.heap.size W w') := fun W hW => implSigOk_calls Y W (by omega) (shaped_below hsh hW)
 have kindH : Hid (∀ W, Calls Tryz.prog 92 #[.string Y] W fun e w' => e = .returned (.int .i64 (kindL Y.data.toList)) ∧ Below W.heap.size W w') := fun W => implKind_calls Y W (by omega)
 have constH : Hid (∀ W, Calls Tryz.prog 237 #[.int .i64 k, .int .i64 a] W fun e w' => e = .returned (.bool (constB k a)) ∧ w' = W) := fun W => constOk_calls k a W ha1 ha2
 obtain ⟨ta, c, rfl⟩ := ht.form
 have hY' : Y.size ≤ 1048577 := by omega
 obtain ⟨r, hr⟩ : ∃ r, contB o k a b T C N Y zs size locals = r := ⟨_, rfl⟩
 rw [hr]
 have hrH : Hid (contB o k a b T C N Y zs size locals = r) := hr
 have hZH : Hid (Z.data.toList = 91 :: Y.data.toList) := hZl
 have hSH : Hid (PC o) := hS
 clear hS
 clear ht hsh hz ha1 ha2 hr hZl hT
 go_enter Tryz.func215, Tryz.ntmps215
 go_upto_block 0 with fail
 refine switch16 ?_
 intro R e0 e1 e2 e3 e4 e5 e6 e7 e8 e9 e10 e11 e12 e13 e14 e15 e16
 go_wp2_with fail
 all_goals (try (exact (no_way hSH ‹(o == _) = true› (by unfold PC; omega)).elim))
 all_goals (first | refine e0 _ _ ?_ | refine e1 _ _ ?_ | refine e2 _ _ ?_ | refine e3 _ _ ?_ | refine e4 _ _ ?_ | refine e5 _ _ ?_ | refine e6 _ _ ?_ | refine e7 _ _ ?_ | refine e8 _ _ ?_ | refine e9 _ _ ?_ | refine e10 _ _ ?_ | refine e11 _ _ ?_ | refine e12 _ _ ?_ | refine e13 _ _ ?_ | refine e14 _ _ ?_ | refine e15 _ _ ?_ | refine e16 _ _ ?_ | skip)
 all_goals (try clear e0; try clear e1; try clear e2; try clear e3; try clear e4; try clear e5; try clear e6; try clear e7; try clear e8; try clear e9; try clear e10; try clear e11; try clear e12; try clear e13; try clear e14; try clear e15; try clear e16)
 all_goals (go_wp2_with (first
  | (go_at_call 181; refine (between_calls _ _ _ _).mono ?_; rintro e w' ⟨rfl, he⟩; subst he)
  | (go_at_call 216; refine (within_calls _ _ _).mono ?_; rintro e w' ⟨rfl, he⟩; subst he)
  | (go_at_call 237; refine (constH.out _).mono ?_; rintro e w' ⟨rfl, he⟩; subst he)
  | (go_at_call 238; refine (conv_calls _ _ _).mono ?_; rintro e w' ⟨⟨x, rfl⟩, he⟩; subst he)
  | (go_at_call 239; refine (jumpH.out _ (below1 _ _)).mono ?_; rintro e w1 ⟨rfl, hb1⟩)
  | (go_at_call 111; refine (nameH.out _ _ (by assumption)).mono ?_; rintro e w1 ⟨rfl, hb1⟩; have q3 : w1.cell? ⟨w.heap.size, 3, none⟩ = some (.int .i64 b) := keep1 (by first | assumption | simp) hb1; have q6 : w1.cell? ⟨w.heap.size, 6, none⟩ = some (.string N) := keep1 (by first | assumption | simp) hb1; have q7 : w1.cell? ⟨w.heap.size, 7, none⟩ = some (.string Y) := keep1 (by first | assumption | simp) hb1)
  | (go_at_call 179; rw [← hZ]; refine (typeH.out _ _ hZs).mono ?_; rintro e w1 ⟨rfl, hb1⟩)
  | (go_at_call 179; refine (typeH.out _ _ hY').mono ?_; rintro e w1 ⟨rfl, hb1⟩; have q3 : w1.cell? ⟨w.heap.size, 3, none⟩ = some (.int .i64 b) := keep1 (by first | assumption | simp) hb1; have q6 : w1.cell? ⟨w.heap.size, 6, none⟩ = some (.string N) := keep1 (by first | assumption | simp) hb1; have q7 : w1.cell? ⟨w.heap.size, 7, none⟩ = some (.string Y) := keep1 (by first | assumption | simp) hb1)
  | (go_at_call 180; refine (sigH.out _ (by repeat (first | exact below1 _ _ | refine below_below ?_ (by assumption)))).mono ?_; rintro e w1 ⟨rfl, hb1⟩; have q3 : w1.cell? ⟨w.heap.size, 3, none⟩ = some (.int .i64 b) := keep1 (by first | assumption | simp) hb1; have q6 : w1.cell? ⟨w.heap.size, 6, none⟩ = some (.string N) := keep1 (by first | assumption | simp) hb1; have q7 : w1.cell? ⟨w.heap.size, 7, none⟩ = some (.string Y) := keep1 (by first | assumption | simp) hb1)
  | (go_at_call 92; refine (kindH.out _).mono ?_; rintro e w1 ⟨rfl, hb1⟩)))
 all_goals (try (refine retTo_normal ?_; go_wp2_with (first
   | (go_at_call 181; refine (between_calls _ _ _ _).mono ?_; rintro e w' ⟨rfl, he⟩; subst he)
   | (go_at_call 216; refine (within_calls _ _ _).mono ?_; rintro e w' ⟨rfl, he⟩; subst he)
   | (go_at_call 237; refine (constH.out _).mono ?_; rintro e w' ⟨rfl, he⟩; subst he)
   | (go_at_call 238; refine (conv_calls _ _ _).mono ?_; rintro e w' ⟨⟨x, rfl⟩, he⟩; subst he)
   | (go_at_call 239; refine (jumpH.out _ (below1 _ _)).mono ?_; rintro e w1 ⟨rfl, hb1⟩)
   | (go_at_call 111; refine (nameH.out _ _ (by assumption)).mono ?_; rintro e w1 ⟨rfl, hb1⟩; have q3 : w1.cell? ⟨w.heap.size, 3, none⟩ = some (.int .i64 b) := keep1 (by first | assumption | simp) hb1; have q6 : w1.cell? ⟨w.heap.size, 6, none⟩ = some (.string N) := keep1 (by first | assumption | simp) hb1; have q7 : w1.cell? ⟨w.heap.size, 7, none⟩ = some (.string Y) := keep1 (by first | assumption | simp) hb1)
   | (go_at_call 179; rw [← hZ]; refine (typeH.out _ _ hZs).mono ?_; rintro e w1 ⟨rfl, hb1⟩)
   | (go_at_call 179; refine (typeH.out _ _ hY').mono ?_; rintro e w1 ⟨rfl, hb1⟩; have q3 : w1.cell? ⟨w.heap.size, 3, none⟩ = some (.int .i64 b) := keep1 (by first | assumption | simp) hb1; have q6 : w1.cell? ⟨w.heap.size, 6, none⟩ = some (.string N) := keep1 (by first | assumption | simp) hb1; have q7 : w1.cell? ⟨w.heap.size, 7, none⟩ = some (.string Y) := keep1 (by first | assumption | simp) hb1)
   | (go_at_call 180; refine (sigH.out _ (by repeat (first | exact below1 _ _ | refine below_below ?_ (by assumption)))).mono ?_; rintro e w1 ⟨rfl, hb1⟩; have q3 : w1.cell? ⟨w.heap.size, 3, none⟩ = some (.int .i64 b) := keep1 (by first | assumption | simp) hb1; have q6 : w1.cell? ⟨w.heap.size, 6, none⟩ = some (.string N) := keep1 (by first | assumption | simp) hb1; have q7 : w1.cell? ⟨w.heap.size, 7, none⟩ = some (.string Y) := keep1 (by first | assumption | simp) hb1)
   | (go_at_call 92; refine (kindH.out _).mono ?_; rintro e w1 ⟨rfl, hb1⟩))))
 all_goals (
  first | (refine retOr_ret (then_ret ?_); go_ret) | (refine retTo_ret (then_ret ?_); go_ret) | go_ret
  refine ⟨?_, by repeat (first | exact below1 _ _ | refine below_below ?_ (by assumption))⟩
  go_light
  rw [← hrH.out]
  have hZl := hZH.out
  have hS := hSH.out
  unfold PC at hS
  clear hSH
  clear jumpH nameH typeH sigH kindH constH hrH hZH hZ hZs hC hN hY hY'
  simp only [beq_iff_eq, beq_eq_false_iff_ne, ne_eq] at *
  first
   | (exfalso; omega)
   | (subst_vars; simp_all [contB]; done)
   | (unfold contB
      repeat (first | rw [if_neg (by omega)] | rw [if_pos (by omega)])
      done)
   | (unfold contB
      repeat (first | rw [if_neg (by omega)] | rw [if_pos (by omega)])
      rfl))
theorem contents_D (o k a b size locals : Int) (T C N Y : ByteArray) (v : Value) (zs : List Int) (w : World) (ht : Tab w v zs) (hz : zs.length ≤ 1048576)
  (ha1 : -9223372036854775808 ≤ a) (ha2 : a < 9223372036854775808) (hT : T.size ≤ 1048576) (hC : C.size ≤ 1048576) (hN : N.size ≤ 1048576) (hY : Y.size ≤ 1048576) (hsh : w.ShapedOpen Tryz.prog) (hS : PD o) :
  Calls Tryz.prog 215 #[insV o k a b T C N Y v, .int .i64 size, .int .i64 locals] w fun e w' => e = .returned (.bool (contB o k a b T C N Y zs size locals)) ∧ Below w.heap.size w w' := by
 have jumpH : Hid (∀ W, Below w.heap.size w W → Calls Tryz.prog 239 #[insV o k a b T C N Y v, .int .i64 size] W fun e w' => e = .returned (.bool (jumpB o b size zs)) ∧ Below W.heap.size W w') := fun W hW => jumpOk_calls _ _ _ _ _ _ _ _ _ _ _ W (ht.kept hW) hz
 have nameH : Hid (∀ (s : ByteArray) (W : World), s.size ≤ 1048576 → Calls Tryz.prog 111 #[.string s] W fun e w' => e = .returned (.bool (nameOk s.data.toList)) ∧ Below W.heap.size W w') := fun s W hs => implName_below s W (by omega)
 obtain ⟨Z, hZ⟩ : ∃ Z : ByteArray, Z = ⟨#[91]⟩ ++ Y := ⟨_, rfl⟩
 have hZl : Z.data.toList = 91 :: Y.data.toList := by rw [hZ]; simp
 have hZs : Z.size ≤ 1048577 := by rw [← toList_size, hZl]; have := toList_size Y; simp; omega
 have typeH : Hid (∀ (s : ByteArray) (W : World), s.size ≤ 1048577 → Calls Tryz.prog 179 #[.string s] W fun e w' => e = .returned (.bool (typeL s.data.toList)) ∧ Below W.heap.size W w') := fun s W hs => implType_calls s W (by omega)
 have sigH : Hid (∀ W, Below w.heap.size w W → Calls Tryz.prog 180 #[.string Y] W fun e w' => e = .returned (.bool (sigOk Y.data.toList)) ∧ Below W.heap.size W w') := fun W hW => implSigOk_calls Y W (by omega) (shaped_below hsh hW)
 have kindH : Hid (∀ W, Calls Tryz.prog 92 #[.string Y] W fun e w' => e = .returned (.int .i64 (kindL Y.data.toList)) ∧ Below W.heap.size W w') := fun W => implKind_calls Y W (by omega)
 have constH : Hid (∀ W, Calls Tryz.prog 237 #[.int .i64 k, .int .i64 a] W fun e w' => e = .returned (.bool (constB k a)) ∧ w' = W) := fun W => constOk_calls k a W ha1 ha2
 obtain ⟨ta, c, rfl⟩ := ht.form
 have hY' : Y.size ≤ 1048577 := by omega
 obtain ⟨r, hr⟩ : ∃ r, contB o k a b T C N Y zs size locals = r := ⟨_, rfl⟩
 rw [hr]
 have hrH : Hid (contB o k a b T C N Y zs size locals = r) := hr
 have hZH : Hid (Z.data.toList = 91 :: Y.data.toList) := hZl
 have hSH : Hid (PD o) := hS
 clear hS
 clear ht hsh hz ha1 ha2 hr hZl hT
 go_enter Tryz.func215, Tryz.ntmps215
 go_upto_block 0 with fail
 refine switch16 ?_
 intro R e0 e1 e2 e3 e4 e5 e6 e7 e8 e9 e10 e11 e12 e13 e14 e15 e16
 go_wp2_with fail
 all_goals (try (exact (no_way hSH ‹(o == _) = true› (by unfold PD; omega)).elim))
 all_goals (first | refine e0 _ _ ?_ | refine e1 _ _ ?_ | refine e2 _ _ ?_ | refine e3 _ _ ?_ | refine e4 _ _ ?_ | refine e5 _ _ ?_ | refine e6 _ _ ?_ | refine e7 _ _ ?_ | refine e8 _ _ ?_ | refine e9 _ _ ?_ | refine e10 _ _ ?_ | refine e11 _ _ ?_ | refine e12 _ _ ?_ | refine e13 _ _ ?_ | refine e14 _ _ ?_ | refine e15 _ _ ?_ | refine e16 _ _ ?_ | skip)
 all_goals (try clear e0; try clear e1; try clear e2; try clear e3; try clear e4; try clear e5; try clear e6; try clear e7; try clear e8; try clear e9; try clear e10; try clear e11; try clear e12; try clear e13; try clear e14; try clear e15; try clear e16)
 all_goals (go_wp2_with (first
  | (go_at_call 181; refine (between_calls _ _ _ _).mono ?_; rintro e w' ⟨rfl, he⟩; subst he)
  | (go_at_call 216; refine (within_calls _ _ _).mono ?_; rintro e w' ⟨rfl, he⟩; subst he)
  | (go_at_call 237; refine (constH.out _).mono ?_; rintro e w' ⟨rfl, he⟩; subst he)
  | (go_at_call 238; refine (conv_calls _ _ _).mono ?_; rintro e w' ⟨⟨x, rfl⟩, he⟩; subst he)
  | (go_at_call 239; refine (jumpH.out _ (below1 _ _)).mono ?_; rintro e w1 ⟨rfl, hb1⟩)
  | (go_at_call 111; refine (nameH.out _ _ (by assumption)).mono ?_; rintro e w1 ⟨rfl, hb1⟩; have q3 : w1.cell? ⟨w.heap.size, 3, none⟩ = some (.int .i64 b) := keep1 (by first | assumption | simp) hb1; have q6 : w1.cell? ⟨w.heap.size, 6, none⟩ = some (.string N) := keep1 (by first | assumption | simp) hb1; have q7 : w1.cell? ⟨w.heap.size, 7, none⟩ = some (.string Y) := keep1 (by first | assumption | simp) hb1)
  | (go_at_call 179; rw [← hZ]; refine (typeH.out _ _ hZs).mono ?_; rintro e w1 ⟨rfl, hb1⟩)
  | (go_at_call 179; refine (typeH.out _ _ hY').mono ?_; rintro e w1 ⟨rfl, hb1⟩; have q3 : w1.cell? ⟨w.heap.size, 3, none⟩ = some (.int .i64 b) := keep1 (by first | assumption | simp) hb1; have q6 : w1.cell? ⟨w.heap.size, 6, none⟩ = some (.string N) := keep1 (by first | assumption | simp) hb1; have q7 : w1.cell? ⟨w.heap.size, 7, none⟩ = some (.string Y) := keep1 (by first | assumption | simp) hb1)
  | (go_at_call 180; refine (sigH.out _ (by repeat (first | exact below1 _ _ | refine below_below ?_ (by assumption)))).mono ?_; rintro e w1 ⟨rfl, hb1⟩; have q3 : w1.cell? ⟨w.heap.size, 3, none⟩ = some (.int .i64 b) := keep1 (by first | assumption | simp) hb1; have q6 : w1.cell? ⟨w.heap.size, 6, none⟩ = some (.string N) := keep1 (by first | assumption | simp) hb1; have q7 : w1.cell? ⟨w.heap.size, 7, none⟩ = some (.string Y) := keep1 (by first | assumption | simp) hb1)
  | (go_at_call 92; refine (kindH.out _).mono ?_; rintro e w1 ⟨rfl, hb1⟩)))
 all_goals (try (refine retTo_normal ?_; go_wp2_with (first
   | (go_at_call 181; refine (between_calls _ _ _ _).mono ?_; rintro e w' ⟨rfl, he⟩; subst he)
   | (go_at_call 216; refine (within_calls _ _ _).mono ?_; rintro e w' ⟨rfl, he⟩; subst he)
   | (go_at_call 237; refine (constH.out _).mono ?_; rintro e w' ⟨rfl, he⟩; subst he)
   | (go_at_call 238; refine (conv_calls _ _ _).mono ?_; rintro e w' ⟨⟨x, rfl⟩, he⟩; subst he)
   | (go_at_call 239; refine (jumpH.out _ (below1 _ _)).mono ?_; rintro e w1 ⟨rfl, hb1⟩)
   | (go_at_call 111; refine (nameH.out _ _ (by assumption)).mono ?_; rintro e w1 ⟨rfl, hb1⟩; have q3 : w1.cell? ⟨w.heap.size, 3, none⟩ = some (.int .i64 b) := keep1 (by first | assumption | simp) hb1; have q6 : w1.cell? ⟨w.heap.size, 6, none⟩ = some (.string N) := keep1 (by first | assumption | simp) hb1; have q7 : w1.cell? ⟨w.heap.size, 7, none⟩ = some (.string Y) := keep1 (by first | assumption | simp) hb1)
   | (go_at_call 179; rw [← hZ]; refine (typeH.out _ _ hZs).mono ?_; rintro e w1 ⟨rfl, hb1⟩)
   | (go_at_call 179; refine (typeH.out _ _ hY').mono ?_; rintro e w1 ⟨rfl, hb1⟩; have q3 : w1.cell? ⟨w.heap.size, 3, none⟩ = some (.int .i64 b) := keep1 (by first | assumption | simp) hb1; have q6 : w1.cell? ⟨w.heap.size, 6, none⟩ = some (.string N) := keep1 (by first | assumption | simp) hb1; have q7 : w1.cell? ⟨w.heap.size, 7, none⟩ = some (.string Y) := keep1 (by first | assumption | simp) hb1)
   | (go_at_call 180; refine (sigH.out _ (by repeat (first | exact below1 _ _ | refine below_below ?_ (by assumption)))).mono ?_; rintro e w1 ⟨rfl, hb1⟩; have q3 : w1.cell? ⟨w.heap.size, 3, none⟩ = some (.int .i64 b) := keep1 (by first | assumption | simp) hb1; have q6 : w1.cell? ⟨w.heap.size, 6, none⟩ = some (.string N) := keep1 (by first | assumption | simp) hb1; have q7 : w1.cell? ⟨w.heap.size, 7, none⟩ = some (.string Y) := keep1 (by first | assumption | simp) hb1)
   | (go_at_call 92; refine (kindH.out _).mono ?_; rintro e w1 ⟨rfl, hb1⟩))))
 all_goals (
  first | (refine retOr_ret (then_ret ?_); go_ret) | (refine retTo_ret (then_ret ?_); go_ret) | go_ret
  refine ⟨?_, by repeat (first | exact below1 _ _ | refine below_below ?_ (by assumption))⟩
  go_light
  rw [← hrH.out]
  have hZl := hZH.out
  have hS := hSH.out
  unfold PD at hS
  clear hSH
  clear jumpH nameH typeH sigH kindH constH hrH hZH hZ hZs hC hN hY hY'
  simp only [beq_iff_eq, beq_eq_false_iff_ne, ne_eq] at *
  first
   | (exfalso; omega)
   | (subst_vars; simp_all [contB]; done)
   | (unfold contB
      repeat (first | rw [if_neg (by omega)] | rw [if_pos (by omega)])
      done)
   | (unfold contB
      repeat (first | rw [if_neg (by omega)] | rw [if_pos (by omega)])
      rfl))
end Go.Proofs.YtjjccimeikkogaaGreatDoor
