/- The law of Reached, walked. -/
import Derived.Test.YtkpeimklcoggkaaRcH
import Derived.Test.YtkpeimklcoggkaaRcC
import Derived.Test.YtkpeimklcoggkaaObS
namespace Go.Proofs.Ytkpeimklcoggkaa
set_option linter.unusedVariables false
open Go.ChangeShapes Go.WideShapes Go.ChangeAt Go.RowKit

theorem below_drewN2 {w W : World} (h : Below w.heap.size w W) (n : Nat) : Below w.heap.size w (W.drewN n) := below_drewN h n
theorem drewN_below (W : World) (n : Nat) : Below W.heap.size W (W.drewN n) := below_drewN (Below.refl _ _) n
/-- What the law holds: the specification's answer, its own copies, the program's answer. -/
structure LS (w W : World) (L : List Int) (objs : List ObjL) (roots : List Int) (sv x0 x1 gv : Value) (s1 s2 s3 s4 s5 : Nat) : Prop where
  hb : Below w.heap.size w W
  n1 : w.heap.size ≤ s1 ∧ s1 ≤ s2 ∧ s2 ≤ s3 ∧ s3 ≤ s4 ∧ s4 ≤ s5 ∧ s5 ≤ W.heap.size
  S : IntsAt s1 s2 W sv L
  X0 : ListAt ObjR 3 true s2 s3 W x0 objs
  X1 : ListAt IntR 1 true s3 s4 W x1 roots
  G : IntsAt s4 s5 W gv L
theorem LS.on {w W W' : World} {L : List Int} {objs : List ObjL} {roots : List Int} {sv x0 x1 gv : Value} {s1 s2 s3 s4 s5 : Nat} (h : LS w W L objs roots sv x0 x1 gv s1 s2 s3 s4 s5) (hb : Below W.heap.size W W') : LS w W' L objs roots sv x0 x1 gv s1 s2 s3 s4 s5 := by
  obtain ⟨h1, h2, h3, h4, h5, h6⟩ := h
  have := hb.size
  exact ⟨below_on2 h1 hb, by omega, h3.kept ((Same.below hb).mono (Nat.zero_le _) (by omega)), h4.kept ObjR.stable (Nat.le_refl _) (Nat.le_refl _) ((Same.below hb).mono (Nat.zero_le _) (by omega)), h5.kept IntR.stable (Nat.le_refl _) (Nat.le_refl _) ((Same.below hb).mono (Nat.zero_le _) (by omega)), h6.kept ((Same.below hb).mono (Nat.zero_le _) (by omega))⟩
/-- Behind the marks. -/
structure LT (w W : World) (L M : List Int) (sv gv : Value) (s1 s2 s4 s5 : Nat) : Prop where
  hb : Below w.heap.size w W
  n1 : w.heap.size ≤ s1 ∧ s1 ≤ s2 ∧ s2 ≤ s4 ∧ s4 ≤ s5 ∧ s5 ≤ W.heap.size
  S : IntsAt s1 s2 W sv L
  G : IntsAt s4 s5 W gv M
theorem LT.on {w W W' : World} {L M : List Int} {sv gv : Value} {s1 s2 s4 s5 : Nat} (h : LT w W L M sv gv s1 s2 s4 s5) (hb : Below W.heap.size W W') : LT w W' L M sv gv s1 s2 s4 s5 := by
  obtain ⟨h1, h2, h3, h6⟩ := h
  have := hb.size
  exact ⟨below_on2 h1 hb, by omega, h3.kept ((Same.below hb).mono (Nat.zero_le _) (by omega)), h6.kept ((Same.below hb).mono (Nat.zero_le _) (by omega))⟩
theorem LT.touch {w W W' : World} {L M : List Int} {sv gv : Value} {s1 s2 s4 s5 a b : Nat} (h : LT w W L M sv gv s1 s2 s4 s5) (ht : Touch a b W W') (h1 : s2 ≤ a) (h2 : b ≤ s4) : LT w W' L M sv gv s1 s2 s4 s5 := by
  obtain ⟨g1, g2, g3, g6⟩ := h
  have := ht.1
  exact ⟨g1.trans (ht.2.1.mono (by omega)), by omega, g3.kept (ht.same (by omega) (.inl h1)), g6.kept (ht.same (by omega) (.inr h2))⟩

set_option maxRecDepth 1000000 in
set_option maxHeartbeats 4000000 in
theorem lawReached_calls (objs : List ObjL) (roots : List Int) (v0 v1 : Value) (w : World) (h0 : ListAt ObjR 3 false 0 w.heap.size w v0 objs) (h1 : ListAt IntR 1 false 0 w.heap.size w v1 roots) (hu : objs.length ≤ 9223372036854775807 ∧ ∀ x ∈ objs, x.upto) (hu1 : roots.length ≤ 9223372036854775807)
    (im : ∀ (W : World) (u0 u1 : Value) (lo hi lo2 hi2 : Nat), Below w.heap.size w W → hi ≤ W.heap.size → hi2 ≤ W.heap.size → ListAt ObjR 3 true lo hi W u0 objs → ListAt IntR 1 true lo2 hi2 W u1 roots → objs.length ≤ 1048576 → roots.length ≤ 1048576 → (objs.map (fun x => x.vals.length)).sum ≤ 1048576 → Calls Try.prog 8 #[u0, u1] W fun e w' => ∃ v, e = .returned v ∧ IntsAt W.heap.size w'.heap.size w' v (reachL objs roots) ∧ Below W.heap.size W w') :
    Calls Try.prog 3 #[v0, v1] w fun e w' => e = .returned (.bool true) ∧ Below w.heap.size w w' := by
  have szH : Hid (∀ W, Below w.heap.size w W → Calls Try.prog 4 #[v0, .int .i64 1048576] W fun e w' => SzQ 1048576 (sumL ObjL.sz objs) e ∧ Below W.heap.size W w') := fun W hW => szObjS_calls v0 objs W false 0 w.heap.size 1048576 hW.size (h0.kept ObjR.stable (Nat.le_refl _) (Nat.le_refl _) (Same.below hW)) hu.1 (by omega) (by omega) (fun x hx => szObj_calls x (hu.2 x hx))
  have toO : Hid (objs.length ≤ 1048576 → (∀ x ∈ objs, x.small) → ∀ W, Below w.heap.size w W → Calls Try.prog 6 #[v0] W fun e w' => ∃ u, e = .returned u ∧ ListAt ObjR 3 true W.heap.size w'.heap.size w' u objs ∧ Below W.heap.size W w') := fun ha hb W hW => toObjS_calls v0 objs W w.heap.size hW.size (h0.kept ObjR.stable (Nat.le_refl _) (Nat.le_refl _) (Same.below hW)) ha (fun x hx => toObj_calls x w.heap.size (hb x hx))
  have toI : Hid (roots.length ≤ 1048576 → ∀ W, Below w.heap.size w W → Calls Try.prog 7 #[v1] W fun e w' => ∃ u, e = .returned u ∧ ListAt IntR 1 true W.heap.size w'.heap.size w' u roots ∧ Below W.heap.size W w') := fun ha W hW => toInts_calls v1 roots W w.heap.size hW.size (h1.kept IntR.stable (Nat.le_refl _) (Nat.le_refl _) (Same.below hW)) ha
  have imH : Hid (∀ (W : World) (u0 u1 : Value) (lo hi lo2 hi2 : Nat), Below w.heap.size w W → hi ≤ W.heap.size → hi2 ≤ W.heap.size → ListAt ObjR 3 true lo hi W u0 objs → ListAt IntR 1 true lo2 hi2 W u1 roots → objs.length ≤ 1048576 → roots.length ≤ 1048576 → (objs.map (fun x => x.vals.length)).sum ≤ 1048576 → Calls Try.prog 8 #[u0, u1] W fun e w' => ∃ v, e = .returned v ∧ IntsAt W.heap.size w'.heap.size w' v (reachL objs roots) ∧ Below W.heap.size W w') := im
  have spH : Hid (∀ (W : World) (u0 u1 : Value) (lo hi lo2 hi2 : Nat), hi ≤ W.heap.size → hi2 ≤ W.heap.size → ListAt ObjR 3 true lo hi W u0 objs → ListAt IntR 1 true lo2 hi2 W u1 roots → objs.length ≤ 1048576 → roots.length ≤ 1048576 → (objs.map (fun x => x.vals.length)).sum ≤ 1048576 → Calls Try.prog 5 #[u0, u1] W fun e w' => ∃ v, e = .returned v ∧ IntsAt W.heap.size w'.heap.size w' v (reachL objs roots) ∧ Below W.heap.size W w') := fun W u0 u1 lo hi lo2 hi2 a b c d e f g => specReached_calls u0 u1 objs roots W true lo hi lo2 hi2 a b c d e f g
  have hLl : Hid ((reachL objs roots).length ≤ 4001) := by
    show _ ≤ _
    unfold reachL
    split
    · rename_i h
      have := rchL_length objs.length roots (outOf objs)
      have := h.1
      omega
    · simp
  generalize reachL objs roots = L at *
  obtain ⟨a0, c0, rfl⟩ := h0.form
  obtain ⟨a1, c1, rfl⟩ := h1.form
  clear h0 h1 hu im
  by_cases hbig1 : 1048576 < roots.length
  · have hb' : (1048576 : Int) < roots.length := by omega
    go_enter Try.func3, Try.ntmps3
    go_wp2
    go_ret
    exact ⟨rfl, Below.refl _ _⟩
  have hr1 : (roots.length : Int) ≤ 1048576 := by omega
  have hrN : roots.length ≤ 1048576 := by omega
  by_cases hbig : (1048576 : Int) < sumL ObjL.sz objs
  · go_enter Try.func3, Try.ntmps3
    go_wp2_with (first | (go_at_call 4; refine (szH.out _ (Below.refl _ _)).mono ?_; rintro e w1 ⟨⟨r, rfl, hr1, hr2⟩, hb1⟩; obtain rfl := hr1 hbig))
    go_ret
    exact ⟨rfl, hb1⟩
  have hsz : sumL ObjL.sz objs ≤ 1048576 := by omega
  have hoN : objs.length ≤ 1048576 := by unfold sumL at hsz; omega
  have hvN : (objs.map (fun x => x.vals.length)).sum ≤ (objs.map ObjL.sz).sum := by
    clear hsz hoN hbig szH toO imH spH hu1
    induction objs with
    | nil => simp
    | cons x l ih =>
      simp only [List.map_cons, List.sum_cons]
      have : x.vals.length ≤ x.sz := by unfold ObjL.sz; omega
      omega
  have hvS : objs.length + (objs.map (fun x => x.vals.length)).sum ≤ 1048576 := by unfold sumL at hsz; omega
  have hsm : ∀ x ∈ objs, x.small := fun x hx => by
    have := sum_mem_le (fun x : ObjL => x.vals.length) objs x hx
    show x.vals.length ≤ _
    omega
  have toO2 : Hid (∀ W, Below w.heap.size w W → Calls Try.prog 6 #[.slice a0 objs.length c0] W fun e w' => ∃ u, e = .returned u ∧ ListAt ObjR 3 true W.heap.size w'.heap.size w' u objs ∧ Below W.heap.size W w') := toO.out hoN hsm
  have toI2 : Hid (∀ W, Below w.heap.size w W → Calls Try.prog 7 #[.slice a1 roots.length c1] W fun e w' => ∃ u, e = .returned u ∧ ListAt IntR 1 true W.heap.size w'.heap.size w' u roots ∧ Below W.heap.size W w') := toI.out hrN
  have spC : Hid (∀ (W : World) (u0 u1 : Value) (lo hi lo2 hi2 : Nat), hi ≤ W.heap.size → hi2 ≤ W.heap.size → ListAt ObjR 3 true lo hi W u0 objs → ListAt IntR 1 true lo2 hi2 W u1 roots → Calls Try.prog 5 #[u0, u1] W fun e w' => ∃ v, e = .returned v ∧ IntsAt W.heap.size w'.heap.size w' v L ∧ Below W.heap.size W w') := fun W u0 u1 lo hi lo2 hi2 a b c d => spH.out W u0 u1 lo hi lo2 hi2 a b c d hoN hrN (by omega)
  have imC : Hid (∀ (W : World) (u0 u1 : Value) (lo hi lo2 hi2 : Nat), Below w.heap.size w W → hi ≤ W.heap.size → hi2 ≤ W.heap.size → ListAt ObjR 3 true lo hi W u0 objs → ListAt IntR 1 true lo2 hi2 W u1 roots → Calls Try.prog 8 #[u0, u1] W fun e w' => ∃ v, e = .returned v ∧ IntsAt W.heap.size w'.heap.size w' v L ∧ Below W.heap.size W w') := fun W u0 u1 lo hi lo2 hi2 z a b c d => imH.out W u0 u1 lo hi lo2 hi2 z a b c d hoN hrN (by omega)
  have eqI : Hid (∀ (W : World) (u v : Value) (l1 g1 l2 g2 : Nat) (zs : List Int), zs.length ≤ 1048576 → IntsAt l1 g1 W u zs → IntsAt l2 g2 W v zs → Calls Try.prog 9 #[u, v] W fun e w' => e = .returned (.bool true) ∧ Below W.heap.size W w') := fun W u v l1 g1 l2 g2 zs hz a b => (eqInts_calls u v zs W l1 g1 l2 g2 a b (by omega)).mono (by rintro e w' ⟨rfl, n, rfl⟩; exact ⟨rfl, drewN_below _ _⟩)
  have eqO : Hid (∀ (W : World) (u v : Value) (l1 g1 l2 g2 : Nat), g1 ≤ W.heap.size → g2 ≤ W.heap.size → ListAt ObjR 3 true l1 g1 W u objs → ListAt ObjR 3 true l2 g2 W v objs → Calls Try.prog 10 #[u, v] W fun e w' => e = .returned (.bool true) ∧ Below W.heap.size W w') := fun W u v l1 g1 l2 g2 a b c d => eqObjS_calls u v objs W l1 g1 l2 g2 a b c d hoN (fun x hx => eqObj_calls x (hsm x hx))
  have mkO : Hid (∀ (W : World) (u : Value) (l g : Nat), g ≤ W.heap.size → ListAt ObjR 3 true l g W u objs → Calls Try.prog 11 #[u, .int .i64 1] W fun e w' => (∃ r : Int, e = .returned (.int .i64 r) ∧ 0 ≤ r ∧ r ≤ 4194304) ∧ Touch l g W w') := fun W u l g a b => markObjs_calls u objs 1 W l g a b (by omega) (by omega) hvS
  have mkI : Hid (∀ (W : World) (u : Value) (l g : Nat) (zs : List Int) (k : Int), zs.length ≤ 1048576 → 0 ≤ k → k ≤ 4194304 → g ≤ W.heap.size → IntsAt l g W u zs → Calls Try.prog 12 #[u, .int .i64 k] W fun e w' => e = .returned (.int .i64 (k + zs.length)) ∧ Touch l g W w' ∧ IntsAt l g w' u (iota k zs.length)) := fun W u l g zs k hz h0 h1 a b => markInts_calls u zs k W l g a b h0 (by omega) (by omega)
  have hdI : Hid (∀ (W : World) (u : Value) (l g : Nat) (n : Nat), n ≤ 1048576 → IntsAt l g W u (iota 1 n) → Calls Try.prog 13 #[u, .int .i64 1] W fun e w' => e = .returned (.int .i64 (1 + (n : Int))) ∧ w' = W) := fun W u l g n hz a => heldInts_calls u n 1 W l g a (by omega) (by omega) (by omega)
  have hLl2 : L.length ≤ 4001 := hLl.out
  have hpos : (0 : Int) ≤ 1048576 - (sumL ObjL.sz objs : Nat) := by omega
  clear toO toI spH imH hLl hsm hvS hvN hsz hu1
  go_enter Try.func3, Try.ntmps3
  go_wp2_with fail
  refine (szH.out _ (Below.refl _ _)).mono ?_
  rintro e w1 ⟨⟨r, rfl, -, hr2⟩, hb1⟩
  obtain rfl := hr2 (by omega)
  clear hr2 szH
  go_wp2_with fail
  refine (toO2.out _ hb1).mono ?_
  rintro e w2 ⟨u1, rfl, U1, hb2⟩
  have B2 := below_on2 hb1 hb2
  go_wp2_with fail
  refine (toI2.out _ B2).mono ?_
  rintro e w3 ⟨u2, rfl, U2, hb3⟩
  have B3 := below_on2 B2 hb3
  go_wp2_with fail
  refine (spC.out _ u1 u2 w1.heap.size w2.heap.size w2.heap.size w3.heap.size hb3.size (Nat.le_refl _) (U1.kept ObjR.stable (Nat.le_refl _) (Nat.le_refl _) ((Same.below hb3).mono (Nat.zero_le _) (Nat.le_refl _))) U2).mono ?_
  rintro e w4 ⟨sv, rfl, S4, hb4⟩
  have B4 := below_on2 B3 hb4
  clear U1 U2 B2 hb2 hb3 spC
  go_wp2_with fail
  refine (toO2.out _ B4).mono ?_
  rintro e w5 ⟨x0, rfl, X0, hb5⟩
  have B5 := below_on2 B4 hb5
  go_wp2_with fail
  refine (toI2.out _ B5).mono ?_
  rintro e w6 ⟨x1, rfl, X1, hb6⟩
  have B6 := below_on2 B5 hb6
  have X0' := X0.kept ObjR.stable (Nat.le_refl _) (Nat.le_refl _) ((Same.below hb6).mono (Nat.zero_le _) (Nat.le_refl _))
  go_wp2_with fail
  refine (imC.out _ x0 x1 w4.heap.size w5.heap.size w5.heap.size w6.heap.size B6 hb6.size (Nat.le_refl _) X0' X1).mono ?_
  rintro e w7 ⟨gv, rfl, G7, hb7⟩
  have L7 : Hid (LS w w7 L objs roots sv x0 x1 gv w3.heap.size w4.heap.size w5.heap.size w6.heap.size w7.heap.size) := by
    have e1 := B3.size
    have e2 := hb4.size
    have e3 := hb5.size
    have e4 := hb6.size
    have e5 := hb7.size
    have hb46 := below_on2 (below_on2 hb5 hb6) hb7
    exact ⟨below_on2 B6 hb7, by omega, S4.kept ((Same.below hb46).mono (Nat.zero_le _) (Nat.le_refl _)), X0'.kept ObjR.stable (Nat.le_refl _) (Nat.le_refl _) ((Same.below hb7).mono (Nat.zero_le _) (by omega)), X1.kept IntR.stable (Nat.le_refl _) (Nat.le_refl _) ((Same.below hb7).mono (Nat.zero_le _) (Nat.le_refl _)), G7⟩
  generalize w3.heap.size = s1 at L7
  generalize w4.heap.size = s2 at L7
  generalize w5.heap.size = s3 at L7
  generalize w6.heap.size = s4 at L7
  generalize w7.heap.size = s5 at L7
  clear X0 X0' X1 S4 G7 B3 B4 B5 B6 hb1 hb4 hb5 hb6 hb7
  go_wp2_with fail
  refine (eqI.out _ gv sv s4 s5 s1 s2 L (by omega) L7.out.G L7.out.S).mono ?_
  rintro e w8 ⟨rfl, hb8⟩
  have L8 : Hid (LS w w8 L objs roots sv x0 x1 gv s1 s2 s3 s4 s5) := L7.out.on hb8
  clear L7 hb8
  go_wp2_with fail
  refine (toO2.out _ L8.out.hb).mono ?_
  rintro e w9 ⟨u3, rfl, U3, hb9⟩
  have L9 : Hid (LS w w9 L objs roots sv x0 x1 gv s1 s2 s3 s4 s5) := L8.out.on hb9
  go_wp2_with fail
  refine (eqO.out _ x0 u3 s2 s3 w8.heap.size w9.heap.size (by have := L9.out.n1; omega) (Nat.le_refl _) L9.out.X0 U3).mono ?_
  rintro e w10 ⟨rfl, hb10⟩
  have L10 : Hid (LS w w10 L objs roots sv x0 x1 gv s1 s2 s3 s4 s5) := L9.out.on hb10
  clear L8 L9 U3 hb9 hb10
  go_wp2_with fail
  refine (toI2.out _ L10.out.hb).mono ?_
  rintro e w11 ⟨u4, rfl, U4, hb11⟩
  have L11 : Hid (LS w w11 L objs roots sv x0 x1 gv s1 s2 s3 s4 s5) := L10.out.on hb11
  go_wp2_with fail
  refine (eqI.out _ x1 u4 s3 s4 w10.heap.size w11.heap.size roots hrN L11.out.X1.ints U4.ints).mono ?_
  rintro e w12 ⟨rfl, hb12⟩
  have L12 : Hid (LS w w12 L objs roots sv x0 x1 gv s1 s2 s3 s4 s5) := L11.out.on hb12
  clear L10 L11 U4 hb11 hb12
  go_wp2_with fail
  refine (mkO.out _ x0 s2 s3 (by have := L12.out.n1; omega) L12.out.X0).mono ?_
  rintro e w13 ⟨⟨r, rfl, hr0, hrb⟩, T13⟩
  have X13 : Hid (ListAt IntR 1 true s3 s4 w13 x1 roots) := L12.out.X1.kept IntR.stable (Nat.le_refl _) (Nat.le_refl _) (T13.same (by have := L12.out.n1; omega) (.inr (Nat.le_refl _)))
  have M13 : Hid (LT w w13 L L sv gv s1 s2 s4 s5) := by
    have n := L12.out.n1
    exact (LT.mk L12.out.hb (by omega) L12.out.S L12.out.G).touch T13 (Nat.le_refl _) (by omega)
  have n13 : Hid (s2 ≤ s3 ∧ s3 ≤ s4 ∧ s4 ≤ w13.heap.size) := by
    have n := L12.out.n1
    have := T13.1
    show _ ∧ _ ∧ _
    omega
  clear L12 T13
  go_wp2_with fail
  refine (mkI.out _ x1 s3 s4 roots r hrN hr0 hrb n13.out.2.2 X13.out.ints).mono ?_
  rintro e w14 ⟨rfl, T14, _⟩
  have M14 : Hid (LT w w14 L L sv gv s1 s2 s4 s5) := M13.out.touch T14 n13.out.1 (Nat.le_refl _)
  have hk0 : (0 : Int) ≤ r + roots.length := by omega
  clear T14 M13 X13 n13
  go_wp2_with fail
  refine (eqI.out _ gv sv s4 s5 s1 s2 L (by omega) M14.out.G M14.out.S).mono ?_
  rintro e w15 ⟨rfl, hb15⟩
  have M15 : Hid (LT w w15 L L sv gv s1 s2 s4 s5) := M14.out.on hb15
  clear M14 hb15
  go_wp2_with fail
  refine (mkI.out _ gv s4 s5 L 1 (by omega) (by omega) (by omega) M15.out.n1.2.2.2.2 M15.out.G).mono ?_
  rintro e w16 ⟨rfl, T16, G16⟩
  have M16 : Hid (LT w w16 L (iota 1 L.length) sv gv s1 s2 s4 s5) := by
    have n := M15.out.n1
    have := T16.1
    exact ⟨M15.out.hb.trans (T16.2.1.mono (by omega)), by omega, M15.out.S.kept (T16.same (by omega) (.inl (by omega))), G16⟩
  clear M15 T16 G16
  have hq : ((1 : Int) + L.length != 1 + L.length) = false := by simp
  have hq0 : (0 : Int) ≤ 1 + L.length := by omega
  go_wp2_with fail
  refine (hdI.out _ gv s4 s5 L.length (by omega) M16.out.G).mono ?_
  rintro e w17 ⟨rfl, hw17⟩
  subst w17
  go_wp2_with fail
  refine (toO2.out _ M16.out.hb).mono ?_
  rintro e w18 ⟨u5, rfl, U5, hb18⟩
  have M18 : Hid (LT w w18 L (iota 1 L.length) sv gv s1 s2 s4 s5) := M16.out.on hb18
  go_wp2_with fail
  refine (toI2.out _ M18.out.hb).mono ?_
  rintro e w19 ⟨u6, rfl, U6, hb19⟩
  have M19 : Hid (LT w w19 L (iota 1 L.length) sv gv s1 s2 s4 s5) := M18.out.on hb19
  go_wp2_with fail
  refine (imC.out _ u5 u6 w16.heap.size w18.heap.size w18.heap.size w19.heap.size M19.out.hb hb19.size (Nat.le_refl _) (U5.kept ObjR.stable (Nat.le_refl _) (Nat.le_refl _) ((Same.below hb19).mono (Nat.zero_le _) (Nat.le_refl _))) U6).mono ?_
  rintro e w20 ⟨hv, rfl, H20, hb20⟩
  have M20 : Hid (LT w w20 L (iota 1 L.length) sv gv s1 s2 s4 s5) := M19.out.on hb20
  clear M16 M18 M19 U5 U6 hb18 hb19 hb20
  go_wp2_with fail
  refine (eqI.out _ hv sv w19.heap.size w20.heap.size s1 s2 L (by omega) H20 M20.out.S).mono ?_
  rintro e w21 ⟨rfl, hb21⟩
  have M21 : Hid (LT w w21 L (iota 1 L.length) sv gv s1 s2 s4 s5) := M20.out.on hb21
  clear M20 H20 hb21
  go_wp2_with fail
  refine (hdI.out _ gv s4 s5 L.length (by omega) M21.out.G).mono ?_
  rintro e w22 ⟨rfl, hw22⟩
  subst w22
  go_wp2
  go_ret
  exact ⟨rfl, M21.out.hb⟩
end Go.Proofs.Ytkpeimklcoggkaa
