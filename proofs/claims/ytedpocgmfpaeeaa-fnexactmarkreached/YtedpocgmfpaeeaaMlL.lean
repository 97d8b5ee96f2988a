/- The law of MarkReached, walked, over contracts of both sides. -/
import Derived.Test.YtedpocgmfpaeeaaMlM
import Derived.Test.YtedpocgmfpaeeaaGlL
namespace Go.Proofs.Ytedpocgmfpaeeaa
set_option linter.unusedVariables false
open Go.ChangeShapes Go.WideShapes Go.ChangeAt Go.RowKit

/-- A heap of the call's own. -/
def MhpO (lo hi : Nat) (W : World) (row : List Value) (x : MhpL) : Prop := MhpR true lo hi W row x
theorem MhpO.kept {lo hi : Nat} {W W' : World} {row : List Value} {x : MhpL} (h : MhpO lo hi W row x) (hs : Same lo hi W W') : MhpO lo hi W' row x := MhpR.stable _ _ _ _ _ _ _ _ _ h (Nat.le_refl _) (Nat.le_refl _) hs
structure XSm (W : World) (x : MhpL) (rw_ : List Value) (s3 s4 Bx : Nat) : Prop where
  n : s3 ≤ s4 ∧ s4 ≤ Bx ∧ Bx < W.heap.size
  X0 : MhpO s3 s4 W rw_ x
  XB : W.rangeAt Bx 0 rw_
theorem XSm.on {W W' : World} {x : MhpL} {rw_ : List Value} {s3 s4 Bx : Nat} (h : XSm W x rw_ s3 s4 Bx) (hb : Below W.heap.size W W') : XSm W' x rw_ s3 s4 Bx := by
  have n := h.n
  have := hb.size
  exact ⟨by omega, h.X0.kept ((Same.below hb).mono (Nat.zero_le _) (by omega)), rangeB hb (by omega) h.XB⟩
/-- A copy of the heap. -/
def MhpQ (W : World) (x : MhpL) (e : Ending) (w' : World) : Prop := ∃ a0 ak0 a1 ak1 a2 ak2, e = .returned (.agg #[.slice a0 x.objs.length ak0, .slice a1 x.roots.length ak1, .bool x.cycle, .slice a2 x.row_.length ak2]) ∧ MhpO W.heap.size w'.heap.size w' [.slice a0 x.objs.length ak0, .slice a1 x.roots.length ak1, .bool x.cycle, .slice a2 x.row_.length ak2] x ∧ Below W.heap.size W w'
theorem mhp_forms {own : Bool} {lo hi : Nat} {W : World} {row : List Value} {x : MhpL} (h : MhpR own lo hi W row x) : ∃ a0 ak0 a1 ak1 a2 ak2, row = [.slice a0 x.objs.length ak0, .slice a1 x.roots.length ak1, .bool x.cycle, .slice a2 x.row_.length ak2] := by
  obtain ⟨v0, v1, v2, rfl, g0, g1, g2⟩ := h
  obtain ⟨a0, k0, rfl⟩ := g0.form
  obtain ⟨a1, k1, rfl⟩ := g1.form
  obtain ⟨a2, k2, rfl⟩ := g2.form
  exact ⟨a0, k0, a1, k1, a2, k2, rfl⟩
theorem mhp_parts {own : Bool} {lo hi : Nat} {W : World} {v0 v1 v2 z : Value} {x : MhpL} (h : MhpR own lo hi W [v0, v1, z, v2] x) : ListAt MobR 3 own lo hi W v0 x.objs ∧ ListAt IntR 1 own lo hi W v1 x.roots ∧ ListAt IntR 1 own lo hi W v2 x.row_ := by
  obtain ⟨u0, u1, u2, e, g0, g1, g2⟩ := h
  injection e with e0 e
  injection e with e1 e
  injection e with _ e
  injection e with e2 _
  rw [e0, e1, e2]
  exact ⟨g0, g1, g2⟩
theorem toMhpQ {x : MhpL} (hs : x.small) {w W : World} {row : List Value} (hx : MhpR false 0 w.heap.size w row x) (hl : row.length = 4) (hW : Below w.heap.size w W) : Calls Try.prog 16 #[.agg row.toArray] W fun e w' => MhpQ W x e w' := by
  refine (toMhp_calls x w.heap.size hs W row hW.size (MhpR.stable _ _ _ _ _ _ _ _ _ hx (Nat.le_refl _) (Nat.le_refl _) (Same.below hW)) hl).mono ?_
  rintro e w' ⟨row', rfl, _, _, hv, hb⟩
  obtain ⟨a0, k0, a1, k1, a2, k2, rfl⟩ := mhp_forms hv
  exact ⟨a0, k0, a1, k1, a2, k2, rfl, hv, hb⟩
def cmpM (L : List Value) (x : MhpL) : Nat → Value → Nat → Nat → World → Prop := fun i v lo hi W => if i = 2 then (∃ a0 ak0 a1 ak1 a2 ak2, v = .agg #[.slice a0 x.objs.length ak0, .slice a1 x.roots.length ak1, .bool x.cycle, .slice a2 x.row_.length ak2] ∧ MhpO lo hi W [.slice a0 x.objs.length ak0, .slice a1 x.roots.length ak1, .bool x.cycle, .slice a2 x.row_.length ak2] x) else v = L.getD i undef
theorem cmpM_below (L : List Value) (x : MhpL) : ∀ i v lo hi (w w' : World), Below w.heap.size w w' → hi ≤ w.heap.size → cmpM L x i v lo hi w → cmpM L x i v lo hi w' := fun i v lo hi w w' hb hh h => by
  unfold cmpM at *
  split
  · rename_i h1
    rw [if_pos h1] at h
    obtain ⟨a0, k0, a1, k1, a2, k2, e, hx⟩ := h
    exact ⟨a0, k0, a1, k1, a2, k2, e, hx.kept ((Same.below hb).mono (Nat.zero_le _) hh)⟩
  · rename_i h1; rw [if_neg h1] at h; exact h

set_option maxRecDepth 1000000 in
set_option maxHeartbeats 8000000 in
theorem lawMarkReached_calls (x : MhpL) (L : List Int) (row : List Value) (w : World) (h0 : MhpR false 0 w.heap.size w row x) (hu : x.upto) (hLl : L.length ≤ 1048576)
    (sp : ∀ (W : World) (row : List Value) (lo hi : Nat), hi ≤ W.heap.size → MhpO lo hi W row x → x.small → Calls Try.prog 15 #[.agg row.toArray] W fun e w' => ∃ v, e = .returned v ∧ IntsAt W.heap.size w'.heap.size w' v L ∧ Below W.heap.size W w')
    (im : ∀ (W : World) (row : List Value) (lo hi : Nat), hi ≤ W.heap.size → MhpO lo hi W row x → x.small → Calls Try.prog 17 #[.agg row.toArray] W fun e w' => ∃ v, e = .returned v ∧ IntsAt W.heap.size w'.heap.size w' v L ∧ Below W.heap.size W w') :
    Calls Try.prog 4 #[.agg row.toArray] w fun e w' => e = .returned (.bool true) ∧ Below w.heap.size w w' := by
  obtain ⟨t0, tk0, t1, tk1, t2, tk2, rfl⟩ := mhp_forms h0
  have szH : Hid (∀ W, Below w.heap.size w W → Calls Try.prog 14 #[.agg #[.slice t0 x.objs.length tk0, .slice t1 x.roots.length tk1, .bool x.cycle, .slice t2 x.row_.length tk2], .int .i64 1048576] W fun e w' => SzQ 1048576 x.sz e ∧ Below W.heap.size W w') := fun W hW => szMhp_calls x hu W [.slice t0 x.objs.length tk0, .slice t1 x.roots.length tk1, .bool x.cycle, .slice t2 x.row_.length tk2] false 0 w.heap.size 1048576 hW.size (MhpR.stable _ _ _ _ _ _ _ _ _ h0 (Nat.le_refl _) (Nat.le_refl _) (Same.below hW)) rfl (by omega) (by omega)
  have r0 := rangeAt_heap (heap_alloc_new w (.cells #[.slice t0 x.objs.length tk0, .slice t1 x.roots.length tk1, .bool x.cycle, .slice t2 x.row_.length tk2] 39))
  have hs0 : w.heap.size < (w.alloc (.cells #[.slice t0 x.objs.length tk0, .slice t1 x.roots.length tk1, .bool x.cycle, .slice t2 x.row_.length tk2] 39)).heap.size := by simp
  have hb0 : Hid (Below w.heap.size w (w.alloc (.cells #[.slice t0 x.objs.length tk0, .slice t1 x.roots.length tk1, .bool x.cycle, .slice t2 x.row_.length tk2] 39))) := below_1 _ _
  go_enter Try.func4, Try.ntmps4
  go_upto_region 1 with fail
  have hA0 : Hid (∀ W, Below (w.alloc (.cells #[.slice t0 x.objs.length tk0, .slice t1 x.roots.length tk1, .bool x.cycle, .slice t2 x.row_.length tk2] 39)).heap.size (w.alloc (.cells #[.slice t0 x.objs.length tk0, .slice t1 x.roots.length tk1, .bool x.cycle, .slice t2 x.row_.length tk2] 39)) W → W.rangeAt w.heap.size 0 [.slice t0 x.objs.length tk0, .slice t1 x.roots.length tk1, .bool x.cycle, .slice t2 x.row_.length tk2]) := fun W hW => rangeB hW hs0 r0
  generalize w.alloc (.cells #[.slice t0 x.objs.length tk0, .slice t1 x.roots.length tk1, .bool x.cycle, .slice t2 x.row_.length tk2] 39) = W0 at hA0 hb0 r0 hs0 ⊢
  have hs0H : Hid (w.heap.size < W0.heap.size) := hs0
  have k0 : W0.cell? ⟨w.heap.size, 0, none⟩ = some (.slice t0 x.objs.length tk0) := r0 0 _ rfl
  have k1 : W0.cell? ⟨w.heap.size, 1, none⟩ = some (.slice t1 x.roots.length tk1) := r0 1 _ rfl
  have k2 : W0.cell? ⟨w.heap.size, 2, none⟩ = some (.bool x.cycle) := r0 2 _ rfl
  have k3 : W0.cell? ⟨w.heap.size, 3, none⟩ = some (.slice t2 x.row_.length tk2) := r0 3 _ rfl
  clear r0 hs0
  by_cases hbig : (1048576 : Int) < (x.sz : Int)
  · go_wp2_with (first | (go_at_call 14; refine (show Calls _ _ _ _ _ from szH.out _ hb0.out).mono ?_; rintro e w1 ⟨⟨r, rfl, hr1, hr2⟩, hb1⟩; obtain rfl := hr1 hbig))
    go_ret
    exact ⟨rfl, below_on2 hb0.out hb1⟩
  have hszN : x.sz ≤ 1048576 := by omega
  have hsm : x.small := MhpL.small_of_sz hszN
  have toO : Hid (∀ W, Below w.heap.size w W → Calls Try.prog 16 #[.agg #[.slice t0 x.objs.length tk0, .slice t1 x.roots.length tk1, .bool x.cycle, .slice t2 x.row_.length tk2]] W fun e w' => MhpQ W x e w') := fun W hW => toMhpQ hsm h0 rfl hW
  have spC : Hid (∀ (W : World) (row : List Value) (lo hi : Nat), hi ≤ W.heap.size → MhpO lo hi W row x → Calls Try.prog 15 #[.agg row.toArray] W fun e w' => ∃ v, e = .returned v ∧ IntsAt W.heap.size w'.heap.size w' v L ∧ Below W.heap.size W w') := fun W row lo hi a b => sp W row lo hi a b hsm
  have imC : Hid (∀ (W : World) (row : List Value) (lo hi : Nat), hi ≤ W.heap.size → MhpO lo hi W row x → Calls Try.prog 17 #[.agg row.toArray] W fun e w' => ∃ v, e = .returned v ∧ IntsAt W.heap.size w'.heap.size w' v L ∧ Below W.heap.size W w') := fun W row lo hi a b => im W row lo hi a b hsm
  have eqI : Hid (∀ (W : World) (u v : Value) (l1 g1 l2 g2 : Nat), IntsAt l1 g1 W u L → IntsAt l2 g2 W v L → Calls Try.prog 9 #[u, v] W fun e w' => e = .returned (.bool true) ∧ Below W.heap.size W w') := fun W u v l1 g1 l2 g2 a b => (eqInts_calls u v L W l1 g1 l2 g2 a b (by omega)).mono (by rintro e w' ⟨rfl, n, rfl⟩; exact ⟨rfl, drewN_below _ _⟩)
  have eqG : Hid (∀ (W : World) (r1 r2 : List Value) (l1 g1 l2 g2 : Nat), g1 ≤ W.heap.size → g2 ≤ W.heap.size → MhpO l1 g1 W r1 x → MhpO l2 g2 W r2 x → r1.length = 4 → r2.length = 4 → Calls Try.prog 18 #[.agg r1.toArray, .agg r2.toArray] W fun e w' => e = .returned (.bool true) ∧ Below W.heap.size W w') := fun W r1 r2 l1 g1 l2 g2 p q r t u v => eqMhp_calls x hsm W r1 r2 l1 g1 l2 g2 p q r t u v
  have mkG : Hid (∀ (W : World) (a0 a1 a2 : Option Addr) (ak0 ak1 ak2 : Nat) (l g : Nat), l ≤ W.heap.size → g ≤ W.heap.size → MhpO l g W [.slice a0 x.objs.length ak0, .slice a1 x.roots.length ak1, .bool x.cycle, .slice a2 x.row_.length ak2] x → Calls Try.prog 19 #[.agg #[.slice a0 x.objs.length ak0, .slice a1 x.roots.length ak1, .bool x.cycle, .slice a2 x.row_.length ak2], .int .i64 1] W fun e w' => (∃ r : Int, e = .returned (.int .i64 r) ∧ 0 ≤ r) ∧ Touch l g W w') := fun W a0 a1 a2 ak0 ak1 ak2 l g p0 p q => by
    obtain ⟨q0, q1, q2⟩ := mhp_parts q
    exact markMhp_calls x a0 a1 a2 ak0 ak1 ak2 W l g p0 p q0 q1 q2 hszN
  have mkI : Hid (∀ (W : World) (u : Value) (l g : Nat), g ≤ W.heap.size → IntsAt l g W u L → Calls Try.prog 12 #[u, .int .i64 1] W fun e w' => e = .returned (.int .i64 (1 + L.length)) ∧ Touch l g W w' ∧ IntsAt l g w' u (iota 1 L.length)) := fun W u l g a b => markInts_calls u L 1 W l g a b (by omega) (by omega) (by omega)
  have hdI : Hid (∀ (W : World) (u : Value) (l g : Nat), IntsAt l g W u (iota 1 L.length) → Calls Try.prog 13 #[u, .int .i64 1] W fun e w' => e = .returned (.int .i64 (1 + (L.length : Int))) ∧ w' = W) := fun W u l g a => heldInts_calls u L.length 1 W l g a (by omega) (by omega) (by omega)
  have hszI : (x.sz : Int) ≤ 1048576 := by omega
  have hq : ((1 : Int) + L.length != 1 + L.length) = false := by simp
  have hq0 : ¬ ((1 : Int) + L.length < 0) := by omega
  clear h0 hu sp im hsm hszN hbig
  go_wp2_with fail
  refine (show Calls _ _ _ _ _ from szH.out _ hb0.out).mono ?_
  rintro e w1 ⟨⟨r, rfl, -, hr2⟩, hb1⟩
  obtain rfl := hr2 (by omega)
  have hpos : ¬ ((1048576 : Int) - (x.sz : Int) < 0) := by omega
  have B1 : Hid (Below w.heap.size w w1) := below_on2 hb0.out hb1
  have A1 : Hid (w1.rangeAt w.heap.size 0 [.slice t0 x.objs.length tk0, .slice t1 x.roots.length tk1, .bool x.cycle, .slice t2 x.row_.length tk2]) := hA0.out _ hb1
  have N1 : Hid (w.heap.size < w1.heap.size) := Nat.lt_of_lt_of_le hs0H.out hb1.size
  clear k0 k1 k2 k3 hr2 szH hA0 hb0 hb1 hs0H
  have k0 : w1.cell? ⟨w.heap.size, 0, none⟩ = some (.slice t0 x.objs.length tk0) := A1.out 0 _ rfl
  have k1 : w1.cell? ⟨w.heap.size, 1, none⟩ = some (.slice t1 x.roots.length tk1) := A1.out 1 _ rfl
  have k2 : w1.cell? ⟨w.heap.size, 2, none⟩ = some (.bool x.cycle) := A1.out 2 _ rfl
  have k3 : w1.cell? ⟨w.heap.size, 3, none⟩ = some (.slice t2 x.row_.length tk2) := A1.out 3 _ rfl
  go_wp2_with fail
  clear k0 k1 k2 k3
  refine (show Calls _ _ _ _ _ from toO.out _ B1.out).mono ?_
  rintro e w2 ⟨u0, uk0, u1, uk1, u2, uk2, rfl, U1, hb2⟩
  go_wp2_with fail
  refine (show Calls _ _ _ _ _ from spC.out _ [.slice u0 x.objs.length uk0, .slice u1 x.roots.length uk1, .bool x.cycle, .slice u2 x.row_.length uk2] _ _ (Nat.le_refl _) U1).mono ?_
  rintro e w4 ⟨sv, rfl, S4, hb4⟩
  obtain ⟨sa, sc, rfl⟩ := S4.form
  have hb14 : Below w1.heap.size w1 w4 := below_on2 hb2 hb4
  have A4 : Hid (w4.rangeAt w.heap.size 0 [.slice t0 x.objs.length tk0, .slice t1 x.roots.length tk1, .bool x.cycle, .slice t2 x.row_.length tk2]) := rangeB hb14 N1.out A1.out
  have B4 : Hid (Below w.heap.size w w4) := below_on2 B1.out hb14
  have N4 : Hid (w.heap.size < w2.heap.size) := Nat.lt_of_lt_of_le N1.out hb2.size
  clear U1 hb2 B1 A1 N1 spC hb14
  have k0 : w4.cell? ⟨w.heap.size, 0, none⟩ = some (.slice t0 x.objs.length tk0) := A4.out 0 _ rfl
  have k1 : w4.cell? ⟨w.heap.size, 1, none⟩ = some (.slice t1 x.roots.length tk1) := A4.out 1 _ rfl
  have k2 : w4.cell? ⟨w.heap.size, 2, none⟩ = some (.bool x.cycle) := A4.out 2 _ rfl
  have k3 : w4.cell? ⟨w.heap.size, 3, none⟩ = some (.slice t2 x.row_.length tk2) := A4.out 3 _ rfl
  go_wp2_with fail
  clear k0 k1 k2 k3
  refine (show Calls _ _ _ _ _ from toO.out _ B4.out).mono ?_
  rintro e w6 ⟨y0, yk0, y1, yk1, y2, yk2, rfl, X6, hb6⟩
  go_upto_region 7 with fail
  obtain ⟨W7, hW7⟩ : ∃ W7 : World, W7 = w6.alloc (.cells #[.slice y0 x.objs.length yk0, .slice y1 x.roots.length yk1, .bool x.cycle, .slice y2 x.row_.length yk2] 44) := ⟨_, rfl⟩
  have hb67 : Below w6.heap.size w6 W7 := by rw [hW7]; exact below_1 _ _
  have XB7 : W7.rangeAt w6.heap.size 0 [.slice y0 x.objs.length yk0, .slice y1 x.roots.length yk1, .bool x.cycle, .slice y2 x.row_.length yk2] := by rw [hW7]; exact rangeAt_heap (heap_alloc_new w6 _)
  have N7 : w6.heap.size < W7.heap.size := by rw [hW7]; simp
  rw [← hW7]
  clear hW7
  have X7 : MhpO w4.heap.size w6.heap.size W7 [.slice y0 x.objs.length yk0, .slice y1 x.roots.length yk1, .bool x.cycle, .slice y2 x.row_.length yk2] x := X6.kept ((Same.below hb67).mono (Nat.zero_le _) (Nat.le_refl _))
  have k0 : W7.cell? ⟨w6.heap.size, 0, none⟩ = some (.slice y0 x.objs.length yk0) := XB7 0 _ rfl
  have k1 : W7.cell? ⟨w6.heap.size, 1, none⟩ = some (.slice y1 x.roots.length yk1) := XB7 1 _ rfl
  have k2 : W7.cell? ⟨w6.heap.size, 2, none⟩ = some (.bool x.cycle) := XB7 2 _ rfl
  have k3 : W7.cell? ⟨w6.heap.size, 3, none⟩ = some (.slice y2 x.row_.length yk2) := XB7 3 _ rfl
  go_wp2_with fail
  clear k0 k1 k2 k3
  refine (show Calls _ _ _ _ _ from imC.out _ [.slice y0 x.objs.length yk0, .slice y1 x.roots.length yk1, .bool x.cycle, .slice y2 x.row_.length yk2] w4.heap.size w6.heap.size hb67.size X7).mono ?_
  rintro e w8 ⟨gv, rfl, G8, hb8⟩
  obtain ⟨ga, gc, rfl⟩ := G8.form
  have hb48 : Below w4.heap.size w4 w8 := below_on2 (below_on2 hb6 hb67) hb8
  have L8 : Hid (LT w w8 [.slice t0 x.objs.length tk0, .slice t1 x.roots.length tk1, .bool x.cycle, .slice t2 x.row_.length tk2] L L (.slice sa L.length sc) (.slice ga L.length gc) w2.heap.size w4.heap.size W7.heap.size w8.heap.size) := by
    have q1 := hb4.size
    have q2 := hb6.size
    have q3 := hb8.size
    have q4 := N4.out
    exact ⟨below_on2 B4.out hb48, by omega, rangeB hb48 (by omega) A4.out, S4.kept ((Same.below hb48).mono (Nat.zero_le _) (Nat.le_refl _)), G8⟩
  have Z8 : Hid (XSm w8 x [.slice y0 x.objs.length yk0, .slice y1 x.roots.length yk1, .bool x.cycle, .slice y2 x.row_.length yk2] w4.heap.size w6.heap.size w6.heap.size) := by
    have q2 := hb6.size
    have q3 := hb8.size
    exact ⟨by omega, X7.kept ((Same.below hb8).mono (Nat.zero_le _) (by omega)), rangeB hb8 (by omega) XB7⟩
  have NN : Hid (w6.heap.size ≤ W7.heap.size) := hb67.size
  clear A4 B4 N4 S4 hb4 X6 hb6 hb67 XB7 N7 X7 G8 hb8 hb48
  generalize w2.heap.size = s1 at L8
  generalize w4.heap.size = s2 at L8 Z8
  generalize w6.heap.size = Bx at Z8 NN ⊢
  generalize W7.heap.size = s4 at L8 NN
  generalize w8.heap.size = s5 at L8
  go_wp2_with fail
  refine (show Calls _ _ _ _ _ from eqI.out _ _ _ s4 s5 s1 s2 L8.out.G L8.out.S).mono ?_
  rintro e w9 ⟨rfl, hb9⟩
  have L9 : Hid _ := L8.out.on hb9
  have Z9 : Hid _ := Z8.out.on hb9
  clear L8 Z8 hb9
  go_upto_region 10 with fail
  refine wp_region_own (by kernel_rfl) (fun vs => { tmps := #[Value.agg #[Value.slice t0 x.objs.length tk0, Value.slice t1 x.roots.length tk1, Value.bool x.cycle, Value.slice t2 x.row_.length tk2], Value.pointer (some { block := w.heap.size, off := 0 }), Value.bool false, Value.int IntKind.i64 (1048576 - ↑x.sz), Value.slice sa L.length sc, Value.pointer (some { block := Bx, off := 0 }), Value.slice ga L.length gc, undef, undef, undef, undef, Value.agg #[Value.slice t0 x.objs.length tk0, Value.slice t1 x.roots.length tk1, Value.bool x.cycle, Value.slice t2 x.row_.length tk2], Value.int IntKind.i64 1048576, Value.int IntKind.i64 (1048576 - ↑x.sz), Value.int IntKind.i64 (1048576 - ↑x.sz), Value.bool (decide ((1048576 : Int) - (x.sz : Int) < 0)), Value.agg #[Value.slice t0 x.objs.length tk0, Value.slice t1 x.roots.length tk1, Value.bool x.cycle, Value.slice t2 x.row_.length tk2], Value.agg #[Value.slice u0 x.objs.length uk0, Value.slice u1 x.roots.length uk1, Value.bool x.cycle, Value.slice u2 x.row_.length uk2], Value.slice sa L.length sc, Value.agg #[Value.slice t0 x.objs.length tk0, Value.slice t1 x.roots.length tk1, Value.bool x.cycle, Value.slice t2 x.row_.length tk2], Value.agg #[Value.slice y0 x.objs.length yk0, Value.slice y1 x.roots.length yk1, Value.bool x.cycle, Value.slice y2 x.row_.length yk2], Value.agg #[Value.slice y0 x.objs.length yk0, Value.slice y1 x.roots.length yk1, Value.bool x.cycle, Value.slice y2 x.row_.length yk2], Value.slice ga L.length gc, Value.slice ga L.length gc, Value.slice sa L.length sc, Value.bool true, Value.bool false, vs 0, vs 1, vs 2, vs 3, vs 4, undef, undef, undef, undef, undef, undef, undef, undef, undef, undef, undef, undef, undef, undef, undef, undef, undef, undef, undef, undef, undef, undef, undef, undef, undef, undef, undef, undef, undef, undef, undef, undef, undef, undef, undef, undef, undef], defers := [] }) (cmpM [.agg #[.slice y0 x.objs.length yk0, .slice y1 x.roots.length yk1, .bool x.cycle, .slice y2 x.row_.length yk2], .agg #[.slice t0 x.objs.length tk0, .slice t1 x.roots.length tk1, .bool x.cycle, .slice t2 x.row_.length tk2], undef, .bool true, .bool false] x) (fun i => undef) rfl (cmpM_below _ _) (allAt_all ⟨?_, ?_, ?_, ?_, ?_, trivial⟩) ?_ (regForward_done (by kernel_rfl))
  case refine_1 =>
    intro vs lo hi W hB hv
    have XB := (Z9.out.on hB).XB
    have k0 : W.cell? ⟨Bx, 0, none⟩ = some (.slice y0 x.objs.length yk0) := XB 0 _ rfl
    have k1 : W.cell? ⟨Bx, 1, none⟩ = some (.slice y1 x.roots.length yk1) := XB 1 _ rfl
    have k2 : W.cell? ⟨Bx, 2, none⟩ = some (.bool x.cycle) := XB 2 _ rfl
    have k3 : W.cell? ⟨Bx, 3, none⟩ = some (.slice y2 x.row_.length yk2) := XB 3 _ rfl
    clear hv XB
    go_wp2
    exact ⟨.agg #[.slice y0 x.objs.length yk0, .slice y1 x.roots.length yk1, .bool x.cycle, .slice y2 x.row_.length yk2], by rfl, Below.refl _ _, rfl⟩
  case refine_2 =>
    intro vs lo hi W hB hv
    have hA := (L9.out.on hB).A
    have k0 : W.cell? ⟨w.heap.size, 0, none⟩ = some (.slice t0 x.objs.length tk0) := hA 0 _ rfl
    have k1 : W.cell? ⟨w.heap.size, 1, none⟩ = some (.slice t1 x.roots.length tk1) := hA 1 _ rfl
    have k2 : W.cell? ⟨w.heap.size, 2, none⟩ = some (.bool x.cycle) := hA 2 _ rfl
    have k3 : W.cell? ⟨w.heap.size, 3, none⟩ = some (.slice t2 x.row_.length tk2) := hA 3 _ rfl
    clear hv hA
    go_wp2
    exact ⟨.agg #[.slice t0 x.objs.length tk0, .slice t1 x.roots.length tk1, .bool x.cycle, .slice t2 x.row_.length tk2], by rfl, Below.refl _ _, rfl⟩
  case refine_3 =>
    intro vs lo hi W hB hv
    have e1 : vs 1 = .agg #[.slice t0 x.objs.length tk0, .slice t1 x.roots.length tk1, .bool x.cycle, .slice t2 x.row_.length tk2] := ((hv ⟨1, .data⟩ (by simp) rfl).1)
    have hc := toO.out W (below_on2 L9.out.hb hB)
    clear hv
    simp only [e1]
    go_wp2_with (go_at_call 16; refine (show Calls _ _ _ _ _ from hc).mono ?_; rintro e w2 ⟨v0, vk0, v1, vk1, v2, vk2, rfl, hl2, hb2⟩)
    exact ⟨.agg #[.slice v0 x.objs.length vk0, .slice v1 x.roots.length vk1, .bool x.cycle, .slice v2 x.row_.length vk2], by simp [upd, e1], hb2, v0, vk0, v1, vk1, v2, vk2, rfl, hl2⟩
  case refine_4 =>
    intro vs lo hi W hB hv
    have e0 : vs 0 = .agg #[.slice y0 x.objs.length yk0, .slice y1 x.roots.length yk1, .bool x.cycle, .slice y2 x.row_.length yk2] := ((hv ⟨0, .data⟩ (by simp) rfl).1)
    obtain ⟨⟨v0, vk0, v1, vk1, v2, vk2, e2, hl2⟩, _, hh2, _⟩ := hv ⟨2, .data⟩ (by simp) rfl
    have hZ := Z9.out.on hB
    have hc := eqG.out W [.slice y0 x.objs.length yk0, .slice y1 x.roots.length yk1, .bool x.cycle, .slice y2 x.row_.length yk2] [.slice v0 x.objs.length vk0, .slice v1 x.roots.length vk1, .bool x.cycle, .slice v2 x.row_.length vk2] s2 Bx (lo 2) (hi 2) (by have := hZ.n; omega) hh2 hZ.X0 hl2 rfl rfl
    clear hv hl2 hZ
    simp only [e0, e2]
    go_wp2_with (go_at_call 18; refine (show Calls _ _ _ _ _ from hc).mono ?_; rintro e w2 ⟨rfl, hb2⟩)
    exact ⟨.bool true, by simp [upd, e0, e2], hb2, rfl⟩
  case refine_5 =>
    intro vs lo hi W hB hv
    have e3 : vs 3 = .bool true := ((hv ⟨3, .data⟩ (by simp) rfl).1)
    clear hv
    simp only [e3]
    go_wp2
    exact ⟨.bool false, by simp [upd, e3], Below.refl _ _, rfl⟩
  case refine_6 =>
    intro vs lo hi W12 hB hv _ _
    have e0 : vs 0 = .agg #[.slice y0 x.objs.length yk0, .slice y1 x.roots.length yk1, .bool x.cycle, .slice y2 x.row_.length yk2] := hv 0 (by simp)
    have e1 : vs 1 = .agg #[.slice t0 x.objs.length tk0, .slice t1 x.roots.length tk1, .bool x.cycle, .slice t2 x.row_.length tk2] := hv 1 (by simp)
    have e3 : vs 3 = .bool true := hv 3 (by simp)
    have e4 : vs 4 = .bool false := hv 4 (by simp)
    obtain ⟨v0, vk0, v1, vk1, v2, vk2, e2, _⟩ := hv 2 (by simp)
    have L12 : Hid _ := L9.out.on hB
    have Z12 : Hid _ := Z9.out.on hB
    clear hv hB L9 Z9
    simp only [e0, e1, e2, e3, e4]
    clear e0 e1 e2 e3 e4
    have XB := Z12.out.XB
    have k0 : W12.cell? ⟨Bx, 0, none⟩ = some (.slice y0 x.objs.length yk0) := XB 0 _ rfl
    have k1 : W12.cell? ⟨Bx, 1, none⟩ = some (.slice y1 x.roots.length yk1) := XB 1 _ rfl
    have k2 : W12.cell? ⟨Bx, 2, none⟩ = some (.bool x.cycle) := XB 2 _ rfl
    have k3 : W12.cell? ⟨Bx, 3, none⟩ = some (.slice y2 x.row_.length yk2) := XB 3 _ rfl
    clear XB
    go_wp2_with fail
    clear k0 k1 k2 k3
    refine (show Calls _ _ _ _ _ from mkG.out _ y0 y1 y2 yk0 yk1 yk2 s2 Bx (by have := L12.out.n; omega) (by have := Z12.out.n; omega) Z12.out.X0).mono ?_
    rintro e w13 ⟨⟨r, rfl, hr0⟩, T13⟩
    have M13 : Hid _ := L12.out.touch T13 (Nat.le_refl _) NN.out
    have hr1 : ¬ (r < 0) := by omega
    clear L12 Z12 T13 mkG
    go_wp2_with fail
    refine (show Calls _ _ _ _ _ from eqI.out _ _ _ s4 s5 s1 s2 M13.out.G M13.out.S).mono ?_
    rintro e w14 ⟨rfl, hb14⟩
    have M14 : Hid _ := M13.out.on hb14
    clear M13 hb14
    go_wp2_with fail
    refine (show Calls _ _ _ _ _ from mkI.out _ _ s4 s5 M14.out.n.2.2.2.2 M14.out.G).mono ?_
    rintro e w15 ⟨rfl, T15, G15⟩
    have M15 : Hid _ := M14.out.mark T15 G15
    clear M14 T15 G15 mkI
    go_wp2_with fail
    refine (show Calls _ _ _ _ _ from hdI.out _ _ s4 s5 M15.out.G).mono ?_
    rintro e w16 ⟨rfl, hw16⟩
    subst w16
    have hA := M15.out.A
    have k0 : w15.cell? ⟨w.heap.size, 0, none⟩ = some (.slice t0 x.objs.length tk0) := hA 0 _ rfl
    have k1 : w15.cell? ⟨w.heap.size, 1, none⟩ = some (.slice t1 x.roots.length tk1) := hA 1 _ rfl
    have k2 : w15.cell? ⟨w.heap.size, 2, none⟩ = some (.bool x.cycle) := hA 2 _ rfl
    have k3 : w15.cell? ⟨w.heap.size, 3, none⟩ = some (.slice t2 x.row_.length tk2) := hA 3 _ rfl
    clear hA
    go_wp2_with fail
    clear k0 k1 k2 k3
    refine (show Calls _ _ _ _ _ from toO.out _ M15.out.hb).mono ?_
    rintro e w17 ⟨v0, vk0, v1, vk1, v2, vk2, rfl, V17, hb17⟩
    have M17 : Hid _ := M15.out.on hb17
    clear M15 hb17
    go_wp2_with fail
    refine (show Calls _ _ _ _ _ from imC.out _ [.slice v0 x.objs.length vk0, .slice v1 x.roots.length vk1, .bool x.cycle, .slice v2 x.row_.length vk2] _ _ (Nat.le_refl _) V17).mono ?_
    rintro e w18 ⟨hv, rfl, H18, hb18⟩
    obtain ⟨ha, hc, rfl⟩ := H18.form
    have M18 : Hid _ := M17.out.on hb18
    clear M17 V17 hb18
    go_wp2_with fail
    refine (show Calls _ _ _ _ _ from eqI.out _ _ _ w17.heap.size w18.heap.size s1 s2 H18 M18.out.S).mono ?_
    rintro e w19 ⟨rfl, hb19⟩
    have M19 : Hid _ := M18.out.on hb19
    clear M18 H18 hb19
    go_wp2_with fail
    refine (show Calls _ _ _ _ _ from hdI.out _ _ s4 s5 M19.out.G).mono ?_
    rintro e w20 ⟨rfl, hw20⟩
    subst w20
    go_wp2
    go_ret
    exact ⟨rfl, M19.out.hb⟩
end Go.Proofs.Ytedpocgmfpaeeaa
