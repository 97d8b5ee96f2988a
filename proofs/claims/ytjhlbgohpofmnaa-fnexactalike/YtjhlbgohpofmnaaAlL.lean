/- The law of Alike, walked. -/
import Derived.Test.YtjhlbgohpofmnaaAlG
import Derived.Test.YtjhlbgohpofmnaaObS
namespace Go.Proofs.Ytjhlbgohpofmnaa
set_option linter.unusedVariables false
open Go.ChangeShapes Go.WideShapes Go.ChangeAt Go.RowKit

/-- What the law of Alike holds: its own copies. -/
structure LA (w W : World) (a b : List ObjL) (x0 x2 : Value) (s1 s2 s3 : Nat) : Prop where
  hb : Below w.heap.size w W
  n1 : w.heap.size ≤ s1 ∧ s1 ≤ s2 ∧ s2 ≤ s3 ∧ s3 ≤ W.heap.size
  X0 : ListAt ObjR 3 true s1 s2 W x0 a
  X2 : ListAt ObjR 3 true s2 s3 W x2 b
theorem LA.on {w W W' : World} {a b : List ObjL} {x0 x2 : Value} {s1 s2 s3 : Nat} (h : LA w W a b x0 x2 s1 s2 s3) (hb : Below W.heap.size W W') : LA w W' a b x0 x2 s1 s2 s3 := by
  obtain ⟨h1, h2, h3, h4⟩ := h
  have := hb.size
  exact ⟨below_on2 h1 hb, by omega, h3.kept ObjR.stable (Nat.le_refl _) (Nat.le_refl _) ((Same.below hb).mono (Nat.zero_le _) (by omega)), h4.kept ObjR.stable (Nat.le_refl _) (Nat.le_refl _) ((Same.below hb).mono (Nat.zero_le _) (by omega))⟩
theorem vals_sum_le (objs : List ObjL) : (objs.map (fun x => x.vals.length)).sum ≤ (objs.map ObjL.sz).sum := by
  induction objs with
  | nil => simp
  | cons x l ih =>
    simp only [List.map_cons, List.sum_cons]
    have : x.vals.length ≤ x.sz := by unfold ObjL.sz; omega
    omega
/-- What is small enough: lengths, values, each object. -/
structure Sm (l : List ObjL) : Prop where
  n : l.length ≤ 1048576
  v : (l.map (fun x => x.vals.length)).sum ≤ 1048576
  s : ∀ x ∈ l, x.small
theorem Sm.of {l : List ObjL} (h : sumL ObjL.sz l ≤ 1048576) : Sm l := by
  unfold sumL at h
  have h1 := vals_sum_le l
  refine ⟨by omega, by omega, fun x hx => ?_⟩
  have := sum_mem_le (fun x : ObjL => x.vals.length) l x hx
  show x.vals.length ≤ _
  omega

set_option maxRecDepth 1000000 in
set_option maxHeartbeats 4000000 in
theorem lawAlike_calls (a b : List ObjL) (x y : Int) (v0 v2 : Value) (w : World) (h0 : ListAt ObjR 3 false 0 w.heap.size w v0 a) (h2 : ListAt ObjR 3 false 0 w.heap.size w v2 b) (hu : a.length ≤ 9223372036854775807 ∧ ∀ x ∈ a, x.upto) (hu2 : b.length ≤ 9223372036854775807 ∧ ∀ x ∈ b, x.upto)
    (im : ∀ (W : World) (u0 u1 : Value) (lo hi lo2 hi2 : Nat), Below w.heap.size w W → hi ≤ W.heap.size → hi2 ≤ W.heap.size → ListAt ObjR 3 true lo hi W u0 a → ListAt ObjR 3 true lo2 hi2 W u1 b → Sm a → Sm b → Calls Try.prog 7 #[u0, .int .i64 x, u1, .int .i64 y] W fun e w' => e = .returned (.bool (alikeB a b x y)) ∧ Below W.heap.size W w') :
    Calls Try.prog 3 #[v0, .int .i64 x, v2, .int .i64 y] w fun e w' => e = .returned (.bool true) ∧ Below w.heap.size w w' := by
  have szA : Hid (∀ W, Below w.heap.size w W → Calls Try.prog 4 #[v0, .int .i64 1048576] W fun e w' => SzQ 1048576 (sumL ObjL.sz a) e ∧ Below W.heap.size W w') := fun W hW => szObjS_calls v0 a W false 0 w.heap.size 1048576 hW.size (h0.kept ObjR.stable (Nat.le_refl _) (Nat.le_refl _) (Same.below hW)) hu.1 (by omega) (by omega) (fun x hx => szObj_calls x (hu.2 x hx))
  have szB : Hid (∀ W l, Below w.heap.size w W → 0 ≤ l → l ≤ 1048576 → Calls Try.prog 4 #[v2, .int .i64 l] W fun e w' => SzQ l (sumL ObjL.sz b) e ∧ Below W.heap.size W w') := fun W l hW l0 l1 => szObjS_calls v2 b W false 0 w.heap.size l hW.size (h2.kept ObjR.stable (Nat.le_refl _) (Nat.le_refl _) (Same.below hW)) hu2.1 l0 l1 (fun x hx => szObj_calls x (hu2.2 x hx))
  have toA : Hid (Sm a → ∀ W, Below w.heap.size w W → Calls Try.prog 6 #[v0] W fun e w' => ∃ u, e = .returned u ∧ ListAt ObjR 3 true W.heap.size w'.heap.size w' u a ∧ Below W.heap.size W w') := fun hs W hW => toObjS_calls v0 a W w.heap.size hW.size (h0.kept ObjR.stable (Nat.le_refl _) (Nat.le_refl _) (Same.below hW)) hs.n (fun x hx => toObj_calls x w.heap.size (hs.s x hx))
  have toB : Hid (Sm b → ∀ W, Below w.heap.size w W → Calls Try.prog 6 #[v2] W fun e w' => ∃ u, e = .returned u ∧ ListAt ObjR 3 true W.heap.size w'.heap.size w' u b ∧ Below W.heap.size W w') := fun hs W hW => toObjS_calls v2 b W w.heap.size hW.size (h2.kept ObjR.stable (Nat.le_refl _) (Nat.le_refl _) (Same.below hW)) hs.n (fun x hx => toObj_calls x w.heap.size (hs.s x hx))
  have imH : Hid (∀ (W : World) (u0 u1 : Value) (lo hi lo2 hi2 : Nat), Below w.heap.size w W → hi ≤ W.heap.size → hi2 ≤ W.heap.size → ListAt ObjR 3 true lo hi W u0 a → ListAt ObjR 3 true lo2 hi2 W u1 b → Sm a → Sm b → Calls Try.prog 7 #[u0, .int .i64 x, u1, .int .i64 y] W fun e w' => e = .returned (.bool (alikeB a b x y)) ∧ Below W.heap.size W w') := im
  have spH : Hid (∀ (W : World) (u0 u1 : Value) (lo hi lo2 hi2 : Nat), hi ≤ W.heap.size → hi2 ≤ W.heap.size → ListAt ObjR 3 true lo hi W u0 a → ListAt ObjR 3 true lo2 hi2 W u1 b → Sm a → Sm b → Calls Try.prog 5 #[u0, .int .i64 x, u1, .int .i64 y] W fun e w' => e = .returned (.bool (alikeB a b x y)) ∧ Below W.heap.size W w') := fun W u0 u1 lo hi lo2 hi2 p q r s ha hb => alikeS_calls a b x y u0 u1 W lo hi lo2 hi2 p q r s ha.n hb.n ha.v hb.v
  have eqA : Hid (Sm a → ∀ (W : World) (u v : Value) (l1 g1 l2 g2 : Nat), g1 ≤ W.heap.size → g2 ≤ W.heap.size → ListAt ObjR 3 true l1 g1 W u a → ListAt ObjR 3 true l2 g2 W v a → Calls Try.prog 8 #[u, v] W fun e w' => e = .returned (.bool true) ∧ Below W.heap.size W w') := fun hs W u v l1 g1 l2 g2 p q r s => eqObjS_calls u v a W l1 g1 l2 g2 p q r s hs.n (fun x hx => eqObj_calls x (hs.s x hx))
  have eqB : Hid (Sm b → ∀ (W : World) (u v : Value) (l1 g1 l2 g2 : Nat), g1 ≤ W.heap.size → g2 ≤ W.heap.size → ListAt ObjR 3 true l1 g1 W u b → ListAt ObjR 3 true l2 g2 W v b → Calls Try.prog 8 #[u, v] W fun e w' => e = .returned (.bool true) ∧ Below W.heap.size W w') := fun hs W u v l1 g1 l2 g2 p q r s => eqObjS_calls u v b W l1 g1 l2 g2 p q r s hs.n (fun x hx => eqObj_calls x (hs.s x hx))
  generalize alikeB a b x y = mb at *
  obtain ⟨a0, c0, rfl⟩ := h0.form
  obtain ⟨a2, c2, rfl⟩ := h2.form
  clear h0 h2 hu hu2 im
  by_cases hbig : (1048576 : Int) < sumL ObjL.sz a
  · go_enter Try.func3, Try.ntmps3
    go_wp2_with fail
    refine (szA.out _ (Below.refl _ _)).mono ?_
    rintro e w1 ⟨⟨r, rfl, hr1, -⟩, hb1⟩
    obtain rfl := hr1 hbig
    go_wp2
    go_ret
    exact ⟨rfl, hb1⟩
  have ha : Sm a := Sm.of (by omega)
  have pos1 : (0 : Int) ≤ 1048576 - (sumL ObjL.sz a : Nat) := by omega
  by_cases hbig2 : (1048576 : Int) - (sumL ObjL.sz a : Nat) < sumL ObjL.sz b
  · go_enter Try.func3, Try.ntmps3
    go_wp2_with fail
    refine (szA.out _ (Below.refl _ _)).mono ?_
    rintro e w1 ⟨⟨r, rfl, -, hr2⟩, hb1⟩
    obtain rfl := hr2 (by omega)
    clear hr2
    go_wp2_with fail
    refine (szB.out _ _ hb1 pos1 (by omega)).mono ?_
    rintro e w2 ⟨⟨r, rfl, hr1, -⟩, hb2⟩
    obtain rfl := hr1 hbig2
    go_wp2
    go_ret
    exact ⟨rfl, below_on2 hb1 hb2⟩
  have hb : Sm b := Sm.of (by omega)
  have pos2 : (0 : Int) ≤ 1048576 - (sumL ObjL.sz a : Nat) - (sumL ObjL.sz b : Nat) := by omega
  have toA2 : Hid (∀ W, Below w.heap.size w W → Calls Try.prog 6 #[.slice a0 a.length c0] W fun e w' => ∃ u, e = .returned u ∧ ListAt ObjR 3 true W.heap.size w'.heap.size w' u a ∧ Below W.heap.size W w') := toA.out ha
  have toB2 : Hid (∀ W, Below w.heap.size w W → Calls Try.prog 6 #[.slice a2 b.length c2] W fun e w' => ∃ u, e = .returned u ∧ ListAt ObjR 3 true W.heap.size w'.heap.size w' u b ∧ Below W.heap.size W w') := toB.out hb
  have eqA2 := (show Hid _ from eqA.out ha)
  have eqB2 := (show Hid _ from eqB.out hb)
  have haH : Hid (Sm a ∧ Sm b) := ⟨ha, hb⟩
  have hmm : (mb != mb) = false := by simp
  clear toA toB eqA eqB ha hb
  go_enter Try.func3, Try.ntmps3
  go_wp2_with fail
  refine (szA.out _ (Below.refl _ _)).mono ?_
  rintro e w1 ⟨⟨r, rfl, -, hr2⟩, hb1⟩
  obtain rfl := hr2 (by omega)
  clear hr2 szA
  go_wp2_with fail
  refine (szB.out _ _ hb1 pos1 (by omega)).mono ?_
  rintro e w2 ⟨⟨r, rfl, -, hr2⟩, hb2⟩
  obtain rfl := hr2 (by omega)
  clear hr2 szB
  have B2 := below_on2 hb1 hb2
  go_wp2_with fail
  refine (toA2.out _ B2).mono ?_
  rintro e w3 ⟨u1, rfl, U1, hb3⟩
  have B3 := below_on2 B2 hb3
  go_wp2_with fail
  refine (toB2.out _ B3).mono ?_
  rintro e w4 ⟨u2, rfl, U2, hb4⟩
  have B4 := below_on2 B3 hb4
  go_wp2_with fail
  refine (spH.out _ u1 u2 w2.heap.size w3.heap.size w3.heap.size w4.heap.size hb4.size (Nat.le_refl _) (U1.kept ObjR.stable (Nat.le_refl _) (Nat.le_refl _) ((Same.below hb4).mono (Nat.zero_le _) (Nat.le_refl _))) U2 haH.out.1 haH.out.2).mono ?_
  rintro e w5 ⟨rfl, hb5⟩
  have B5 := below_on2 B4 hb5
  clear U1 U2 hb1 hb2 hb3 hb4 hb5 B2 B3 B4 spH
  go_wp2_with fail
  refine (toA2.out _ B5).mono ?_
  rintro e w6 ⟨x0, rfl, X0, hb6⟩
  have B6 := below_on2 B5 hb6
  go_wp2_with fail
  refine (toB2.out _ B6).mono ?_
  rintro e w7 ⟨x2, rfl, X2, hb7⟩
  have L7 : Hid (LA w w7 a b x0 x2 w5.heap.size w6.heap.size w7.heap.size) := by
    have e1 := B5.size
    have e2 := hb6.size
    have e3 := hb7.size
    exact ⟨below_on2 B6 hb7, by omega, X0.kept ObjR.stable (Nat.le_refl _) (Nat.le_refl _) ((Same.below hb7).mono (Nat.zero_le _) (Nat.le_refl _)), X2⟩
  generalize w5.heap.size = s1 at L7
  generalize w6.heap.size = s2 at L7
  generalize w7.heap.size = s3 at L7
  clear X0 X2 hb6 hb7 B5 B6
  go_wp2_with fail
  refine (imH.out _ x0 x2 s1 s2 s2 s3 L7.out.hb (by have := L7.out.n1; omega) L7.out.n1.2.2.2 L7.out.X0 L7.out.X2 haH.out.1 haH.out.2).mono ?_
  rintro e w8 ⟨rfl, hb8⟩
  have L8 : Hid (LA w w8 a b x0 x2 s1 s2 s3) := L7.out.on hb8
  clear L7 hb8 imH
  go_wp2_with fail
  refine (toA2.out _ L8.out.hb).mono ?_
  rintro e w9 ⟨u3, rfl, U3, hb9⟩
  have L9 : Hid (LA w w9 a b x0 x2 s1 s2 s3) := L8.out.on hb9
  go_wp2_with fail
  refine (eqA2.out _ x0 u3 s1 s2 w8.heap.size w9.heap.size (by have := L9.out.n1; omega) (Nat.le_refl _) L9.out.X0 U3).mono ?_
  rintro e w10 ⟨rfl, hb10⟩
  have L10 : Hid (LA w w10 a b x0 x2 s1 s2 s3) := L9.out.on hb10
  clear L8 L9 U3 hb9 hb10
  go_wp2_with fail
  refine (toB2.out _ L10.out.hb).mono ?_
  rintro e w11 ⟨u4, rfl, U4, hb11⟩
  have L11 : Hid (LA w w11 a b x0 x2 s1 s2 s3) := L10.out.on hb11
  go_wp2_with fail
  refine (eqB2.out _ x2 u4 s2 s3 w10.heap.size w11.heap.size L11.out.n1.2.2.2 (Nat.le_refl _) L11.out.X2 U4).mono ?_
  rintro e w12 ⟨rfl, hb12⟩
  have B12 : Hid (Below w.heap.size w w12) := below_on2 L11.out.hb hb12
  clear L10 L11 U4 hb11 hb12
  go_wp2
  go_ret
  exact ⟨rfl, B12.out⟩
end Go.Proofs.Ytjhlbgohpofmnaa
