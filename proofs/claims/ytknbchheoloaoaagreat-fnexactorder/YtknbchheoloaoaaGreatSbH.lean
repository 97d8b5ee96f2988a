/- The law of Order, walked. -/
import Derived.Test.YtknbchheoloaoaaGreatSbG
namespace Go.Proofs.YtknbchheoloaoaaGreat
set_option linter.unusedVariables false
open Go.ChangeShapes Go.WideShapes Go.ChangeAt Go.RowKit
theorem drewN_below (W : World) (n : Nat) : Below W.heap.size W (W.drewN n) := below_drewN (Below.refl _ _) n
def cmpV (L : List Value) (x : LitL) : Nat → Value → Nat → Nat → World → Prop := fun i v lo hi W => if i = 2 then (∃ a c, v = .agg #[.int .i64 x.vars, .int .i64 x.vol, .int .i64 x.locks, .slice a x.thr.length c] ∧ ListAt ThrR 1 true lo hi W (.slice a x.thr.length c) x.thr) else v = L.getD i undef
theorem cmpV_below (L : List Value) (x : LitL) : ∀ i v lo hi (w w' : World), Below w.heap.size w w' → hi ≤ w.heap.size → cmpV L x i v lo hi w → cmpV L x i v lo hi w' := fun i v lo hi w w' hb hh h => by
 unfold cmpV at *
 split
 ·rename_i h1
  rw [if_pos h1] at h
  obtain ⟨a, c, e, hx⟩ := h
  exact ⟨a, c, e, hx.kept ThrR.stable (Nat.le_refl _) (Nat.le_refl _) ((Same.below hb).mono (Nat.zero_le _) hh)⟩
 ·rename_i h1; rw [if_neg h1] at h; exact h
set_option maxRecDepth 1000000 in
set_option maxHeartbeats 8000000 in
theorem lawOrder_calls (x : LitL) (zs : List Int) (row : List Value) (v1 : Value) (w : World) (h0 : LitR false 0 w.heap.size w row x) (h1 : ListAt IntR 1 false 0 w.heap.size w v1 zs) (hu : x.upto) (hu1 : zs.length ≤ 9223372036854775807) :
  Calls Tryz.prog 3 #[.agg row.toArray, v1] w fun e w' => e = .returned (.bool true) ∧ Below w.heap.size w w' := by
 obtain ⟨tv, rfl, hth⟩ := h0
 obtain ⟨ta, tc, rfl⟩ := hth.form
 obtain ⟨za, zc, rfl⟩ := h1.form
 have szH : Hid (∀ W, Below w.heap.size w W → Calls Tryz.prog 4 #[.agg #[.int .i64 x.vars, .int .i64 x.vol, .int .i64 x.locks, .slice ta x.thr.length tc], .int .i64 1048576] W fun e w' => SzQ 1048576 x.sz e ∧ Below W.heap.size W w') := fun W hW => szLit_calls x hu W [.int .i64 x.vars, .int .i64 x.vol, .int .i64 x.locks, .slice ta x.thr.length tc] false 0 w.heap.size 1048576 hW.size ⟨_, rfl, hth.kept ThrR.stable (Nat.le_refl _) (Nat.le_refl _) (Same.below hW)⟩ rfl (by omega) (by omega)
 have r0 := rangeAt_heap (heap_alloc_new w (.cells #[.int .i64 x.vars, .int .i64 x.vol, .int .i64 x.locks, .slice ta x.thr.length tc] 24))
 have hs0 : w.heap.size < (w.alloc (.cells #[.int .i64 x.vars, .int .i64 x.vol, .int .i64 x.locks, .slice ta x.thr.length tc] 24)).heap.size := by simp
 have hb0 : Hid (Below w.heap.size w (w.alloc (.cells #[.int .i64 x.vars, .int .i64 x.vol, .int .i64 x.locks, .slice ta x.thr.length tc] 24))) := below_1 _ _
 by_cases hbig1 : 1048576 < zs.length
 ·have hb' : (1048576 : Int) < zs.length := by omega
  go_enter Tryz.func3, Tryz.ntmps3
  go_wp2
  go_ret
  exact ⟨rfl, below_1 _ _⟩
 have hr1 : (zs.length : Int) ≤ 1048576 := by omega
 have hrN : zs.length ≤ 1048576 := by omega
 go_enter Tryz.func3, Tryz.ntmps3
 go_upto_region 1 with fail
 have hA0 : Hid (∀ W, Below (w.alloc (.cells #[.int .i64 x.vars, .int .i64 x.vol, .int .i64 x.locks, .slice ta x.thr.length tc] 24)).heap.size (w.alloc (.cells #[.int .i64 x.vars, .int .i64 x.vol, .int .i64 x.locks, .slice ta x.thr.length tc] 24)) W → W.rangeAt w.heap.size 0 [.int .i64 x.vars, .int .i64 x.vol, .int .i64 x.locks, .slice ta x.thr.length tc]) := fun W hW => rangeB hW hs0 r0
 generalize w.alloc (.cells #[.int .i64 x.vars, .int .i64 x.vol, .int .i64 x.locks, .slice ta x.thr.length tc] 24) = W0 at hA0 hb0 r0 hs0 ⊢
 have hs0H : Hid (w.heap.size < W0.heap.size) := hs0
 have k0 : W0.cell? ⟨w.heap.size, 0, none⟩ = some (.int .i64 x.vars) := r0 0 _ rfl
 have k1 : W0.cell? ⟨w.heap.size, 1, none⟩ = some (.int .i64 x.vol) := r0 1 _ rfl
 have k2 : W0.cell? ⟨w.heap.size, 2, none⟩ = some (.int .i64 x.locks) := r0 2 _ rfl
 have k3 : W0.cell? ⟨w.heap.size, 3, none⟩ = some (.slice ta x.thr.length tc) := r0 3 _ rfl
 clear r0 hs0
 by_cases hbig : (1048576 : Int) < (x.sz : Int)
 ·go_wp2_with (first | (go_at_call 4; refine (show Calls _ _ _ _ _ from szH.out _ hb0.out).mono ?_; rintro e w1 ⟨⟨r, rfl, hr1, hr2⟩, hb1⟩; obtain rfl := hr1 hbig))
  go_ret
  exact ⟨rfl, below_on hb0.out hb1⟩
 have hszN : x.sz ≤ 1048576 := by omega
 have hsm : x.small := LitL.small_of_sz hszN
 have toO : Hid (∀ W, Below w.heap.size w W → Calls Tryz.prog 6 #[.agg #[.int .i64 x.vars, .int .i64 x.vol, .int .i64 x.locks, .slice ta x.thr.length tc]] W fun e w' => LitQ W x e w') := fun W hW => toLitQ hsm hth hW
 have toI : Hid (∀ W, Below w.heap.size w W → Calls Tryz.prog 7 #[.slice za zs.length zc] W fun e w' => ∃ a c, e = .returned (.slice a zs.length c) ∧ ListAt IntR 1 true W.heap.size w'.heap.size w' (.slice a zs.length c) zs ∧ Below W.heap.size W w') := fun W hW => (toInts_calls _ zs W w.heap.size hW.size (h1.kept IntR.stable (Nat.le_refl _) (Nat.le_refl _) (Same.below hW)) hrN).mono (by rintro e w' ⟨u, rfl, hu, hb⟩; obtain ⟨a, c, rfl⟩ := hu.form; exact ⟨a, c, rfl, hu, hb⟩)
 have spC : Hid (∀ (W : World) (xa : Option Addr) (xc : Nat) (u1 : Value) (lo hi lo2 hi2 : Nat), hi ≤ W.heap.size → hi2 ≤ W.heap.size → ListAt ThrR 1 true lo hi W (.slice xa x.thr.length xc) x.thr → ListAt IntR 1 true lo2 hi2 W u1 zs → Calls Tryz.prog 5 #[.agg #[.int .i64 x.vars, .int .i64 x.vol, .int .i64 x.locks, .slice xa x.thr.length xc], u1] W fun e w' => OrdQ 0 W x zs e w') := fun W xa xc u1 lo hi lo2 hi2 a b c d => specOrder_calls x xa xc u1 zs W lo hi lo2 hi2 a b c d hrN hsm
 have imC : Hid (∀ (W : World) (xa : Option Addr) (xc : Nat) (u1 : Value) (lo hi lo2 hi2 : Nat), hi ≤ W.heap.size → hi2 ≤ W.heap.size → ListAt ThrR 1 true lo hi W (.slice xa x.thr.length xc) x.thr → ListAt IntR 1 true lo2 hi2 W u1 zs → Calls Tryz.prog 8 #[.agg #[.int .i64 x.vars, .int .i64 x.vol, .int .i64 x.locks, .slice xa x.thr.length xc], u1] W fun e w' => OrdQ W.heap.size W x zs e w') := fun W xa xc u1 lo hi lo2 hi2 a b c d => implOrder_calls x xa xc u1 zs W lo hi lo2 hi2 a b c d hrN hsm
 have hl1 := dsOf_len x zs
 have hl2 := rsOf_len x zs
 unfold OrdQ at spC imC
 generalize doneZ (dsOf x zs) = z1 at spC imC
 generalize raceZ (rsOf x zs) = z2 at spC imC
 generalize (dsOf x zs).length = n1 at spC imC hl1
 generalize (rsOf x zs).length = n2 at spC imC hl2
 have hl1' : n1 ≤ 5000 := by omega
 have eqO : Hid (∀ (W : World) (u v : Value) (y1 y2 : List Int) (l1 g1 l2 g2 : Nat), g1 ≤ W.heap.size → g2 ≤ W.heap.size → OrdN l1 g1 W u n1 y1 n2 y2 → OrdN l2 g2 W v n1 y1 n2 y2 → Calls Tryz.prog 9 #[u, v] W fun e w' => e = .returned (.bool true) ∧ Below W.heap.size W w') := fun W u v y1 y2 l1 g1 l2 g2 a b c d => eqOrd_calls u v n1 y1 n2 y2 W l1 g1 l2 g2 a b c d hl1' hl2
 have eqI : Hid (∀ (W : World) (u v : Value) (l1 g1 l2 g2 : Nat), IntsAt l1 g1 W u zs → IntsAt l2 g2 W v zs → Calls Tryz.prog 11 #[u, v] W fun e w' => e = .returned (.bool true) ∧ Below W.heap.size W w') := fun W u v l1 g1 l2 g2 a b => (eqInts_calls u v zs W l1 g1 l2 g2 a b (by omega)).mono (by rintro e w' ⟨rfl, n, rfl⟩; exact ⟨rfl, drewN_below _ _⟩)
 have eqL : Hid (∀ (W : World) (a1 a2 : Option Addr) (c1 c2 : Nat) (l1 g1 l2 g2 : Nat), g1 ≤ W.heap.size → g2 ≤ W.heap.size → ListAt ThrR 1 true l1 g1 W (.slice a1 x.thr.length c1) x.thr → ListAt ThrR 1 true l2 g2 W (.slice a2 x.thr.length c2) x.thr → Calls Tryz.prog 10 #[.agg #[.int .i64 x.vars, .int .i64 x.vol, .int .i64 x.locks, .slice a1 x.thr.length c1], .agg #[.int .i64 x.vars, .int .i64 x.vol, .int .i64 x.locks, .slice a2 x.thr.length c2]] W fun e w' => e = .returned (.bool true) ∧ Below W.heap.size W w') := fun W a1 a2 c1 c2 l1 g1 l2 g2 p q r t => eqLit_calls x hsm W [.int .i64 x.vars, .int .i64 x.vol, .int .i64 x.locks, .slice a1 x.thr.length c1] [.int .i64 x.vars, .int .i64 x.vol, .int .i64 x.locks, .slice a2 x.thr.length c2] l1 g1 l2 g2 p q ⟨_, rfl, r⟩ ⟨_, rfl, t⟩ rfl rfl
 have mkL : Hid (∀ (W : World) (a : Option Addr) (c l g : Nat), g ≤ W.heap.size → ListAt ThrR 1 true l g W (.slice a x.thr.length c) x.thr → Calls Tryz.prog 12 #[.agg #[.int .i64 x.vars, .int .i64 x.vol, .int .i64 x.locks, .slice a x.thr.length c], .int .i64 1] W fun e w' => (∃ r : Int, e = .returned (.int .i64 r) ∧ 0 ≤ r ∧ r ≤ 4194304) ∧ Touch l g W w') := fun W a c l g p q => markLit_calls x a c W l g p q hszN
 have mkI : Hid (∀ (W : World) (u : Value) (l g : Nat) (k : Int), 0 ≤ k → k ≤ 4194304 → g ≤ W.heap.size → IntsAt l g W u zs → Calls Tryz.prog 13 #[u, .int .i64 k] W fun e w' => e = .returned (.int .i64 (k + zs.length)) ∧ Touch l g W w') := fun W u l g k h0 h1 a b => (markInts_calls u zs k W l g a b h0 (by omega) (by omega)).mono (by rintro e w' ⟨rfl, hT, _⟩; exact ⟨rfl, hT⟩)
 have mkO : Hid (∀ (W : World) (v : Value) (l g : Nat), l ≤ W.heap.size → g ≤ W.heap.size → OrdN l g W v n1 z1 n2 z2 → Calls Tryz.prog 14 #[v, .int .i64 1] W fun e w' => e = .returned (.int .i64 (1 + 2 * n1 + 4 * n2)) ∧ Touch l g W w' ∧ OrdN l g w' v n1 (iota 1 (n1 * 2)) n2 (iota (1 + 2 * n1) (n2 * 4))) := fun W v l g a b c => markOrd_calls v n1 z1 n2 z2 W l g a b c hl1' hl2
 have hdO : Hid (∀ (W : World) (v : Value) (l g : Nat), g ≤ W.heap.size → OrdN l g W v n1 (iota 1 (n1 * 2)) n2 (iota (1 + 2 * n1) (n2 * 4)) → Calls Tryz.prog 15 #[v, .int .i64 1] W fun e w' => e = .returned (.int .i64 (1 + 2 * n1 + 4 * n2)) ∧ Below W.heap.size W w') := fun W v l g a b => heldOrd_calls v n1 n2 W l g a b hl1' hl2
 have hszI : (x.sz : Int) ≤ 1048576 := by omega
 have hpos : (0 : Int) ≤ 1048576 - (x.sz : Int) := by omega
 have hq : ((1 : Int) + 2 * n1 + 4 * n2 != 1 + 2 * n1 + 4 * n2) = false := by simp
 have hq0 : ¬ ((1 : Int) + 2 * n1 + 4 * n2 < 0) := by omega
 have hn1' : (n1 : Int) ≤ 5000 := by omega
 have hn2' : (n2 : Int) ≤ 5000 := by omega
 clear hth h1 hu hu1 hbig1 hsm hszN hbig
 go_wp2_with fail
 refine (show Calls _ _ _ _ _ from szH.out _ hb0.out).mono ?_
 rintro e w1 ⟨⟨r, rfl, -, hr2⟩, hb1⟩
 obtain rfl := hr2 (by omega)
 have B1 : Hid (Below w.heap.size w w1) := below_on hb0.out hb1
 have A1 : Hid (w1.rangeAt w.heap.size 0 [.int .i64 x.vars, .int .i64 x.vol, .int .i64 x.locks, .slice ta x.thr.length tc]) := hA0.out _ hb1
 have N1 : Hid (w.heap.size < w1.heap.size) := Nat.lt_of_lt_of_le hs0H.out hb1.size
 clear k0 k1 k2 k3 hr2 szH hA0 hb0 hb1 hs0H
 have k0 : w1.cell? ⟨w.heap.size, 0, none⟩ = some (.int .i64 x.vars) := A1.out 0 _ rfl
 have k1 : w1.cell? ⟨w.heap.size, 1, none⟩ = some (.int .i64 x.vol) := A1.out 1 _ rfl
 have k2 : w1.cell? ⟨w.heap.size, 2, none⟩ = some (.int .i64 x.locks) := A1.out 2 _ rfl
 have k3 : w1.cell? ⟨w.heap.size, 3, none⟩ = some (.slice ta x.thr.length tc) := A1.out 3 _ rfl
 go_wp2_with fail
 clear k0 k1 k2 k3
 refine (show Calls _ _ _ _ _ from toO.out _ B1.out).mono ?_
 rintro e w2 ⟨u1, c1, rfl, U1, hb2⟩
 go_wp2_with fail
 refine (show Calls _ _ _ _ _ from toI.out _ (below_on B1.out hb2)).mono ?_
 rintro e w3 ⟨u2, c2, rfl, U2, hb3⟩
 go_wp2_with fail
 refine (show Calls _ _ _ _ _ from spC.out _ u1 c1 (.slice u2 zs.length c2) w1.heap.size w2.heap.size w2.heap.size w3.heap.size hb3.size (Nat.le_refl _) (U1.kept ThrR.stable (Nat.le_refl _) (Nat.le_refl _) ((Same.below hb3).mono (Nat.zero_le _) (Nat.le_refl _))) U2).mono ?_
 rintro e w4 ⟨p1, d1, p2, d2, rfl, S4, hb4⟩
 have hb14 : Below w1.heap.size w1 w4 := below_on (below_on hb2 hb3) hb4
 have B4 : Hid (Below w.heap.size w w4) := below_on B1.out hb14
 have A4 : Hid (w4.rangeAt w.heap.size 0 [.int .i64 x.vars, .int .i64 x.vol, .int .i64 x.locks, .slice ta x.thr.length tc]) := rangeB hb14 N1.out A1.out
 have N4 : Hid (w.heap.size < w4.heap.size) := Nat.lt_of_lt_of_le N1.out hb14.size
 clear U1 U2 hb2 hb3 hb4 hb14 B1 A1 N1 spC
 go_upto_region 8 with fail
 have S5 : Hid (OrdN 0 w4.heap.size (w4.alloc (.cells #[.slice p1 n1 d1, .slice p2 n2 d2] 30)) (.agg #[.slice p1 n1 d1, .slice p2 n2 d2]) n1 z1 n2 z2) := S4.kept ((Same.below (below_1 _ _)).mono (Nat.zero_le _) (Nat.le_refl _))
 have SB5 : Hid ((w4.alloc (.cells #[.slice p1 n1 d1, .slice p2 n2 d2] 30)).rangeAt w4.heap.size 0 [.slice p1 n1 d1, .slice p2 n2 d2]) := rangeAt_heap (heap_alloc_new w4 _)
 have A5 : Hid ((w4.alloc (.cells #[.slice p1 n1 d1, .slice p2 n2 d2] 30)).rangeAt w.heap.size 0 [.int .i64 x.vars, .int .i64 x.vol, .int .i64 x.locks, .slice ta x.thr.length tc]) := rangeB (below_1 _ _) N4.out A4.out
 have B5 : Hid (Below w.heap.size w (w4.alloc (.cells #[.slice p1 n1 d1, .slice p2 n2 d2] 30))) := below_on B4.out (below_1 _ _)
 have N5 : Hid (w4.heap.size < (w4.alloc (.cells #[.slice p1 n1 d1, .slice p2 n2 d2] 30)).heap.size) := by show _ < _; simp
 clear S4 A4 B4
 generalize w4.alloc (.cells #[.slice p1 n1 d1, .slice p2 n2 d2] 30) = W5 at S5 SB5 A5 B5 N5 ⊢
 generalize w4.heap.size = Bs at S5 SB5 N4 N5 ⊢
 have k0 : W5.cell? ⟨w.heap.size, 0, none⟩ = some (.int .i64 x.vars) := A5.out 0 _ rfl
 have k1 : W5.cell? ⟨w.heap.size, 1, none⟩ = some (.int .i64 x.vol) := A5.out 1 _ rfl
 have k2 : W5.cell? ⟨w.heap.size, 2, none⟩ = some (.int .i64 x.locks) := A5.out 2 _ rfl
 have k3 : W5.cell? ⟨w.heap.size, 3, none⟩ = some (.slice ta x.thr.length tc) := A5.out 3 _ rfl
 go_wp2_with fail
 clear k0 k1 k2 k3
 refine (show Calls _ _ _ _ _ from toO.out _ B5.out).mono ?_
 rintro e w6 ⟨xa, xc, rfl, X6, hb6⟩
 go_upto_region 9 with fail
 obtain ⟨W7, hW7⟩ : ∃ W7 : World, W7 = w6.alloc (.cells #[.int .i64 x.vars, .int .i64 x.vol, .int .i64 x.locks, .slice xa x.thr.length xc] 34) := ⟨_, rfl⟩
 have hb67 : Below w6.heap.size w6 W7 := by rw [hW7]; exact below_1 _ _
 have XB7 : W7.rangeAt w6.heap.size 0 [.int .i64 x.vars, .int .i64 x.vol, .int .i64 x.locks, .slice xa x.thr.length xc] := by rw [hW7]; exact rangeAt_heap (heap_alloc_new w6 _)
 have N7 : w6.heap.size < W7.heap.size := by rw [hW7]; simp
 rw [← hW7]
 clear hW7
 go_wp2_with fail
 refine (show Calls _ _ _ _ _ from toI.out _ (below_on (below_on B5.out hb6) hb67)).mono ?_
 rintro e w8 ⟨ya, yc, rfl, Y8, hb8⟩
 have XB8 := rangeB hb8 N7 XB7
 have X8 : ListAt ThrR 1 true W5.heap.size w6.heap.size w8 (.slice xa x.thr.length xc) x.thr := X6.kept ThrR.stable (Nat.le_refl _) (Nat.le_refl _) ((Same.below (below_on hb67 hb8)).mono (Nat.zero_le _) (Nat.le_refl _))
 have k0 : w8.cell? ⟨w6.heap.size, 0, none⟩ = some (.int .i64 x.vars) := XB8 0 _ rfl
 have k1 : w8.cell? ⟨w6.heap.size, 1, none⟩ = some (.int .i64 x.vol) := XB8 1 _ rfl
 have k2 : w8.cell? ⟨w6.heap.size, 2, none⟩ = some (.int .i64 x.locks) := XB8 2 _ rfl
 have k3 : w8.cell? ⟨w6.heap.size, 3, none⟩ = some (.slice xa x.thr.length xc) := XB8 3 _ rfl
 go_wp2_with fail
 clear k0 k1 k2 k3
 refine (show Calls _ _ _ _ _ from imC.out _ xa xc (.slice ya zs.length yc) W5.heap.size w6.heap.size W7.heap.size w8.heap.size (Nat.le_trans hb67.size hb8.size) (Nat.le_refl _) X8 Y8).mono ?_
 rintro e w9 ⟨g1, e1, g2, e2, rfl, G9, hb9⟩
 go_upto_region 11 with fail
 obtain ⟨W10, hW10⟩ : ∃ W10 : World, W10 = w9.alloc (.cells #[.slice g1 n1 e1, .slice g2 n2 e2] 30) := ⟨_, rfl⟩
 have hb910 : Below w9.heap.size w9 W10 := by rw [hW10]; exact below_1 _ _
 have GB10 : W10.rangeAt w9.heap.size 0 [.slice g1 n1 e1, .slice g2 n2 e2] := by rw [hW10]; exact rangeAt_heap (heap_alloc_new w9 _)
 have N10 : w9.heap.size < W10.heap.size := by rw [hW10]; simp
 rw [← hW10]
 clear hW10
 have L10 : Hid (LT w W10 [.int .i64 x.vars, .int .i64 x.vol, .int .i64 x.locks, .slice ta x.thr.length tc] (.slice p1 n1 d1) (.slice p2 n2 d2) (.slice g1 n1 e1) (.slice g2 n2 e2) n1 z1 n2 z2 z1 z2 Bs Bs w8.heap.size w9.heap.size w9.heap.size) := by
  have q1 := hb6.size
  have q2 := hb8.size
  have q3 := hb9.size
  have q4 := N4.out
  have q5 := N5.out
  have hb5 : Below W5.heap.size W5 W10 := below_on (below_on (below_on (below_on hb6 hb67) hb8) hb9) hb910
  exact ⟨below_on B5.out hb5, by omega, rangeB hb5 (by omega) A5.out, S5.out.kept ((Same.below hb5).mono (Nat.zero_le _) (by omega)), rangeB hb5 (by omega) SB5.out, G9.kept ((Same.below hb910).mono (Nat.zero_le _) (Nat.le_refl _)), GB10⟩
 have Z10 : Hid (XS W10 x zs xa xc (.slice ya zs.length yc) W5.heap.size w6.heap.size w6.heap.size W7.heap.size w8.heap.size) := by
  have q1 := hb6.size
  have q2 := hb8.size
  have q3 := hb9.size
  have hb810 : Below w8.heap.size w8 W10 := below_on hb9 hb910
  have q4 := hb810.size
  exact ⟨by omega, X8.kept ThrR.stable (Nat.le_refl _) (Nat.le_refl _) ((Same.below hb810).mono (Nat.zero_le _) (by omega)), rangeB hb810 (by omega) XB8, Y8.kept IntR.stable (Nat.le_refl _) (Nat.le_refl _) ((Same.below hb810).mono (Nat.zero_le _) (Nat.le_refl _))⟩
 have NN : Hid (Bs < W5.heap.size ∧ w8.heap.size ≤ w8.heap.size) := ⟨N5.out, Nat.le_refl _⟩
 clear S5 SB5 A5 B5 N4 N5 X6 hb6 hb67 XB7 N7 Y8 hb8 XB8 X8 G9 hb9 hb910 GB10 N10
 generalize W5.heap.size = s3 at Z10 NN
 generalize w6.heap.size = Bx at Z10 ⊢
 generalize W7.heap.size = s5 at Z10
 generalize w8.heap.size = s7 at Z10 L10 NN
 generalize w9.heap.size = Bg at L10 ⊢
 obtain ⟨c1, c2⟩ := L10.out.gb
 obtain ⟨c3, c4⟩ := L10.out.sb
 go_wp2_with fail
 clear c1 c2 c3 c4
 refine (show Calls _ _ _ _ _ from eqO.out _ _ _ z1 z2 s7 Bg 0 Bs (by have := L10.out.n; omega) (by have := L10.out.n; omega) L10.out.G L10.out.S).mono ?_
 rintro e w11 ⟨rfl, hb11⟩
 have L11 := L10.out.on hb11
 have L11H : Hid _ := L11
 have Z11 : Hid _ := Z10.out.on hb11
 clear L10 Z10 hb11 L11
 go_upto_region 13 with fail
 refine wp_region_own (by kernel_rfl) (fun vs => { tmps := #[Value.agg #[Value.int IntKind.i64 x.vars, Value.int IntKind.i64 x.vol, Value.int IntKind.i64 x.locks, Value.slice ta x.thr.length tc], Value.slice za zs.length zc, Value.pointer (some { block := w.heap.size, off := 0 }), undef, Value.bool false, Value.int IntKind.i64 (1048576 - ↑x.sz), Value.pointer (some { block := Bs, off := 0 }), Value.pointer (some { block := Bx, off := 0 }), Value.slice ya zs.length yc, Value.pointer (some { block := Bg, off := 0 }), undef, undef, undef, undef, Value.slice za zs.length zc, Value.int IntKind.i64 ↑zs.length, Value.bool (decide ((1048576 : Int) < (zs.length : Int))), Value.agg #[Value.int IntKind.i64 x.vars, Value.int IntKind.i64 x.vol, Value.int IntKind.i64 x.locks, Value.slice ta x.thr.length tc], Value.int IntKind.i64 1048576, Value.int IntKind.i64 (1048576 - ↑x.sz), Value.int IntKind.i64 (1048576 - ↑x.sz), Value.bool (decide ((1048576 : Int) - (x.sz : Int) < 0)), Value.agg #[Value.int IntKind.i64 x.vars, Value.int IntKind.i64 x.vol, Value.int IntKind.i64 x.locks, Value.slice ta x.thr.length tc], Value.agg #[Value.int IntKind.i64 x.vars, Value.int IntKind.i64 x.vol, Value.int IntKind.i64 x.locks, Value.slice u1 x.thr.length c1], Value.slice za zs.length zc, Value.slice u2 zs.length c2, Value.agg #[Value.slice p1 n1 d1, Value.slice p2 n2 d2], Value.agg #[Value.int IntKind.i64 x.vars, Value.int IntKind.i64 x.vol, Value.int IntKind.i64 x.locks, Value.slice ta x.thr.length tc], Value.agg #[Value.int IntKind.i64 x.vars, Value.int IntKind.i64 x.vol, Value.int IntKind.i64 x.locks, Value.slice xa x.thr.length xc], Value.slice za zs.length zc, Value.slice ya zs.length yc, Value.agg #[Value.int IntKind.i64 x.vars, Value.int IntKind.i64 x.vol, Value.int IntKind.i64 x.locks, Value.slice xa x.thr.length xc], Value.slice ya zs.length yc, Value.agg #[Value.slice g1 n1 e1, Value.slice g2 n2 e2], Value.agg #[Value.slice g1 n1 e1, Value.slice g2 n2 e2], Value.agg #[Value.slice p1 n1 d1, Value.slice p2 n2 d2], Value.bool true, Value.bool false, vs 0, vs 1, vs 2, vs 3, vs 4, undef, undef, undef, undef, undef, undef, undef, undef, undef, undef, undef, undef, undef, undef, undef, undef, undef, undef, undef, undef, undef, undef, undef, undef, undef, undef, undef, undef, undef, undef, undef, undef, undef, undef, undef, undef, undef, undef, undef, undef, undef, undef, undef, undef, undef, undef, undef], defers := [] }) (cmpV [.agg #[.int .i64 x.vars, .int .i64 x.vol, .int .i64 x.locks, .slice xa x.thr.length xc], .agg #[.int .i64 x.vars, .int .i64 x.vol, .int .i64 x.locks, .slice ta x.thr.length tc], undef, .bool true, .bool false] x) (fun i => undef) rfl (cmpV_below _ _) (allAt_all ⟨?_, ?_, ?_, ?_, ?_, trivial⟩) ?_ (regForward_done (by kernel_rfl))
 case refine_1 =>
  intro vs lo hi W hB hv
  obtain ⟨k0, k1, k2, k3⟩ := (Z11.out.on hB).xb
  clear hv
  go_wp2
  exact ⟨.agg #[.int .i64 x.vars, .int .i64 x.vol, .int .i64 x.locks, .slice xa x.thr.length xc], by rfl, Below.refl _ _, rfl⟩
 case refine_2 =>
  intro vs lo hi W hB hv
  have hA := (L11H.out.on hB).A
  have k0 : W.cell? ⟨w.heap.size, 0, none⟩ = some (.int .i64 x.vars) := hA 0 _ rfl
  have k1 : W.cell? ⟨w.heap.size, 1, none⟩ = some (.int .i64 x.vol) := hA 1 _ rfl
  have k2 : W.cell? ⟨w.heap.size, 2, none⟩ = some (.int .i64 x.locks) := hA 2 _ rfl
  have k3 : W.cell? ⟨w.heap.size, 3, none⟩ = some (.slice ta x.thr.length tc) := hA 3 _ rfl
  clear hv hA
  go_wp2
  exact ⟨.agg #[.int .i64 x.vars, .int .i64 x.vol, .int .i64 x.locks, .slice ta x.thr.length tc], by rfl, Below.refl _ _, rfl⟩
 case refine_3 =>
  intro vs lo hi W hB hv
  have e1 : vs 1 = .agg #[.int .i64 x.vars, .int .i64 x.vol, .int .i64 x.locks, .slice ta x.thr.length tc] := ((hv ⟨1, .data⟩ (by simp) rfl).1)
  have hc := toO.out W (below_on L11H.out.hb hB)
  clear hv
  simp only [e1]
  go_wp2_with (go_at_call 6; refine (show Calls _ _ _ _ _ from hc).mono ?_; rintro e w2 ⟨a2, c2, rfl, hl2, hb2⟩)
  exact ⟨.agg #[.int .i64 x.vars, .int .i64 x.vol, .int .i64 x.locks, .slice a2 x.thr.length c2], by first | (rw [← e1]; rfl) | (simp [upd, e1]), hb2, a2, c2, rfl, hl2⟩
 case refine_4 =>
  intro vs lo hi W hB hv
  have e0 : vs 0 = .agg #[.int .i64 x.vars, .int .i64 x.vol, .int .i64 x.locks, .slice xa x.thr.length xc] := ((hv ⟨0, .data⟩ (by simp) rfl).1)
  obtain ⟨⟨a2, c2, e2, hl2⟩, _, hh2, _⟩ := hv ⟨2, .data⟩ (by simp) rfl
  have hZ := Z11.out.on hB
  have hc := eqL.out W xa a2 xc c2 s3 Bx (lo 2) (hi 2) (by have := hZ.n; omega) hh2 hZ.X0 hl2
  clear hv hl2 hZ
  simp only [e0, e2]
  go_wp2_with (go_at_call 10; refine (show Calls _ _ _ _ _ from hc).mono ?_; rintro e w2 ⟨rfl, hb2⟩)
  exact ⟨.bool true, by first | (rw [← e0, ← e2]; rfl) | (simp [upd, e0, e2]), hb2, rfl⟩
 case refine_5 =>
  intro vs lo hi W hB hv
  have e3 : vs 3 = .bool true := ((hv ⟨3, .data⟩ (by simp) rfl).1)
  clear hv
  simp only [e3]
  go_wp2
  exact ⟨.bool false, by first | (rw [← e3]; rfl) | (simp [upd, e3]), Below.refl _ _, rfl⟩
 case refine_6 =>
  intro vs lo hi W12 hB hv _ _
  have e0 : vs 0 = .agg #[.int .i64 x.vars, .int .i64 x.vol, .int .i64 x.locks, .slice xa x.thr.length xc] := hv 0 (by simp)
  have e1 : vs 1 = .agg #[.int .i64 x.vars, .int .i64 x.vol, .int .i64 x.locks, .slice ta x.thr.length tc] := hv 1 (by simp)
  have e3 : vs 3 = .bool true := hv 3 (by simp)
  have e4 : vs 4 = .bool false := hv 4 (by simp)
  obtain ⟨q2, r2, e2, _⟩ := hv 2 (by simp)
  have L12 : Hid _ := L11H.out.on hB
  have Z12 : Hid _ := Z11.out.on hB
  clear hv hB L11H Z11
  simp only [e0, e1, e2, e3, e4]
  clear e0 e1 e2 e3 e4
  go_wp2_with fail
  refine (show Calls _ _ _ _ _ from toI.out _ L12.out.hb).mono ?_
  rintro e w13 ⟨u4, c4, rfl, U4, hb13⟩
  have L13 : Hid _ := L12.out.on hb13
  have Z13 : Hid _ := Z12.out.on hb13
  clear L12 Z12
  go_wp2_with fail
  refine (show Calls _ _ _ _ _ from eqI.out _ _ _ s5 s7 W12.heap.size w13.heap.size Z13.out.X1.ints U4.ints).mono ?_
  rintro e w14 ⟨rfl, hb14⟩
  have L14 : Hid _ := L13.out.on hb14
  have Z14 : Hid _ := Z13.out.on hb14
  clear L13 Z13 U4 hb13 hb14 eqI
  obtain ⟨k0, k1, k2, k3⟩ := Z14.out.xb
  go_wp2_with fail
  clear k0 k1 k2 k3
  refine (show Calls _ _ _ _ _ from mkL.out _ xa xc s3 Bx (by have := Z14.out.n; omega) Z14.out.X0).mono ?_
  rintro e w15 ⟨⟨r, rfl, hr0, hrb⟩, T15⟩
  have L15 : Hid _ := L14.out.touch T15 NN.out.1 (by have := Z14.out.n; omega)
  have Y15 : Hid (ListAt IntR 1 true s5 s7 w15 (.slice ya zs.length yc) zs) := Z14.out.X1.kept IntR.stable (Nat.le_refl _) (Nat.le_refl _) (T15.same (by have := Z14.out.n; omega) (.inr (by have := Z14.out.n; omega)))
  have M15 : Hid (Bs < s5 ∧ s7 ≤ w15.heap.size) := by have := Z14.out.n; have := T15.1; have := NN.out.1; show _ ∧ _; omega
  clear L14 Z14 T15 mkL
  go_wp2_with fail
  refine (show Calls _ _ _ _ _ from mkI.out _ _ s5 s7 r hr0 hrb M15.out.2 Y15.out.ints).mono ?_
  rintro e w16 ⟨rfl, T16⟩
  have L16 : Hid _ := L15.out.touch T16 M15.out.1 (Nat.le_refl _)
  have hk0 : ¬ (r + (zs.length : Int) < 0) := by omega
  clear L15 Y15 M15 T16 mkI
  obtain ⟨c1, c2⟩ := L16.out.gb
  obtain ⟨c3, c5⟩ := L16.out.sb
  go_wp2_with fail
  clear c1 c2 c3 c5
  refine (show Calls _ _ _ _ _ from eqO.out _ _ _ z1 z2 s7 Bg 0 Bs (by have := L16.out.n; omega) (by have := L16.out.n; omega) L16.out.G L16.out.S).mono ?_
  rintro e w17 ⟨rfl, hb17⟩
  have L17 : Hid _ := L16.out.on hb17
  clear L16 hb17
  obtain ⟨c1, c2⟩ := L17.out.gb
  go_wp2_with fail
  clear c1 c2
  refine (show Calls _ _ _ _ _ from mkO.out _ _ s7 Bg (by have := L17.out.n; omega) (by have := L17.out.n; omega) L17.out.G).mono ?_
  rintro e w18 ⟨rfl, T18, G18⟩
  have L18 : Hid _ := L17.out.mark T18 G18
  clear L17 T18 G18 mkO
  obtain ⟨c1, c2⟩ := L18.out.gb
  go_wp2_with fail
  clear c1 c2
  refine (show Calls _ _ _ _ _ from hdO.out _ _ s7 Bg (by have := L18.out.n; omega) L18.out.G).mono ?_
  rintro e w19 ⟨rfl, hb19⟩
  have L19 : Hid _ := L18.out.on hb19
  clear L18 hb19
  have hA := L19.out.A
  have k0 : w19.cell? ⟨w.heap.size, 0, none⟩ = some (.int .i64 x.vars) := hA 0 _ rfl
  have k1 : w19.cell? ⟨w.heap.size, 1, none⟩ = some (.int .i64 x.vol) := hA 1 _ rfl
  have k2 : w19.cell? ⟨w.heap.size, 2, none⟩ = some (.int .i64 x.locks) := hA 2 _ rfl
  have k3 : w19.cell? ⟨w.heap.size, 3, none⟩ = some (.slice ta x.thr.length tc) := hA 3 _ rfl
  clear hA
  go_wp2_with fail
  clear k0 k1 k2 k3
  refine (show Calls _ _ _ _ _ from toO.out _ L19.out.hb).mono ?_
  rintro e w20 ⟨ua, uc, rfl, U20, hb20⟩
  have L20 : Hid _ := L19.out.on hb20
  go_wp2_with fail
  refine (show Calls _ _ _ _ _ from toI.out _ L20.out.hb).mono ?_
  rintro e w21 ⟨va, vc, rfl, V21, hb21⟩
  have L21 : Hid _ := L20.out.on hb21
  go_wp2_with fail
  refine (show Calls _ _ _ _ _ from imC.out _ ua uc (.slice va zs.length vc) w19.heap.size w20.heap.size w20.heap.size w21.heap.size hb21.size (Nat.le_refl _) (U20.kept ThrR.stable (Nat.le_refl _) (Nat.le_refl _) ((Same.below hb21).mono (Nat.zero_le _) (Nat.le_refl _))) V21).mono ?_
  rintro e w22 ⟨h1, f1, h2, f2, rfl, H22, hb22⟩
  have L22 : Hid _ := L21.out.on hb22
  clear L19 L20 L21 U20 V21 hb20 hb21 hb22 imC toO toI
  go_upto_region 31 with fail
  obtain ⟨W23, hW23⟩ : ∃ W23 : World, W23 = w22.alloc (.cells #[.slice h1 n1 f1, .slice h2 n2 f2] 30) := ⟨_, rfl⟩
  have hb23 : Below w22.heap.size w22 W23 := by rw [hW23]; exact below_1 _ _
  have HB : W23.rangeAt w22.heap.size 0 [.slice h1 n1 f1, .slice h2 n2 f2] := by rw [hW23]; exact rangeAt_heap (heap_alloc_new w22 _)
  rw [← hW23]
  clear hW23
  have L23 : Hid _ := L22.out.on hb23
  have H23 : Hid _ := H22.kept ((Same.below hb23).mono (Nat.zero_le _) (Nat.le_refl _))
  have hs23 : Hid (w22.heap.size ≤ W23.heap.size) := hb23.size
  have c1 : W23.cell? ⟨w22.heap.size, 0, none⟩ = some (.slice h1 n1 f1) := HB 0 _ rfl
  have c2 : W23.cell? ⟨w22.heap.size, 1, none⟩ = some (.slice h2 n2 f2) := HB 1 _ rfl
  obtain ⟨c3, c5⟩ := L23.out.sb
  clear L22 H22 hb23 HB
  go_wp2_with fail
  clear c1 c2 c3 c5
  refine (show Calls _ _ _ _ _ from eqO.out _ _ _ z1 z2 w21.heap.size w22.heap.size 0 Bs hs23.out (by have := L23.out.n; omega) H23.out L23.out.S).mono ?_
  rintro e w24 ⟨rfl, hb24⟩
  have L24 : Hid _ := L23.out.on hb24
  clear L23 H23 hb24
  obtain ⟨c1, c2⟩ := L24.out.gb
  go_wp2_with fail
  clear c1 c2
  refine (show Calls _ _ _ _ _ from hdO.out _ _ s7 Bg (by have := L24.out.n; omega) L24.out.G).mono ?_
  rintro e w25 ⟨rfl, hb25⟩
  have L25 : Hid _ := L24.out.on hb25
  clear L24 hb25
  go_wp2
  go_ret
  exact ⟨rfl, L25.out.hb⟩
end Go.Proofs.YtknbchheoloaoaaGreat
