/- Heaps compared and looked at. -/
import Derived.Test.YtcigiilhlealdaaMaF
namespace Go.Proofs.Ytcigiilhlealdaa
set_option linter.unusedVariables false
open Go.ChangeShapes Go.WideShapes Go.ChangeAt Go.RowKit

theorem rangeB {W W' : World} {g : Nat} {cs : List Value} (hb : Below W.heap.size W W') (hg : g < W.heap.size) (h : W.rangeAt g 0 cs) : W'.rangeAt g 0 cs := fun j v hj => (hb.cell (p := ⟨g, 0 + j, none⟩) hg).trans (h j v hj)
structure HpR (lo hi : Nat) (w : World) (ov rv qv : Value) (os : List ObP) (rs qs : List Int) : Prop where
  o : ObjR lo hi w ov os
  r : IntsAt lo hi w rv rs
  q : IntsAt lo hi w qv qs
theorem HpR.kept {lo hi : Nat} {w w' : World} {ov rv qv : Value} {os : List ObP} {rs qs : List Int} (h : HpR lo hi w ov rv qv os rs qs) (hs : Same lo hi w w') : HpR lo hi w' ov rv qv os rs qs := ⟨h.o.kept hs, h.r.kept hs, h.q.kept hs⟩
set_option maxRecDepth 100000 in
set_option maxHeartbeats 1000000 in
theorem heldHeap_calls (ov rv qv : Value) (cyc : Bool) (os : List ObP) (nr nq : Nat) (k : Int) (w : World) (lo hi : Nat) (hh : hi ≤ w.heap.size) (h : HpR lo hi w ov rv qv (markP k os) (iota (k + szP os) nr) (iota (k + szP os + nr) nq)) (hk0 : 0 ≤ k) (hk1 : k ≤ 1000) (hn : os.length ≤ 400) (hg : ∀ x ∈ os, x.flds.length ≤ 6) (h1 : nr ≤ 8) (h2 : nq ≤ 400) :
    Calls Try.prog 23 #[.agg #[ov, rv, .bool cyc, qv], .int .i64 k] w fun e w' => e = .returned (.int .i64 (k + szP os + nr + nq)) ∧ Below w.heap.size w w' := by
  have hsz := szP_bound os hg
  obtain ⟨W0, hW0⟩ : ∃ W0, W0 = w.alloc (.cells #[ov, rv, .bool cyc, qv] 37) := ⟨_, rfl⟩
  have hB : Hid (Below w.heap.size w W0) := by rw [hW0]; exact below_1 _ _
  have hr : W0.rangeAt w.heap.size 0 [ov, rv, .bool cyc, qv] := by rw [hW0]; exact rangeAt_heap (heap_alloc_new w _)
  have h' := h.kept ((Same.below hB.out).mono (Nat.zero_le _) hh)
  have c1 : Hid (Calls Try.prog 44 #[ov, .int .i64 k] W0 fun e w' => e = .returned (.int .i64 (k + szP os)) ∧ w' = W0) := heldObjS_calls ov os k W0 lo hi h'.o hk0 (by omega) hn hg
  have c2 : Hid (Calls Try.prog 39 #[rv, .int .i64 (k + szP os)] W0 fun e w' => e = .returned (.int .i64 (k + szP os + (nr : Nat))) ∧ w' = W0) := heldInts_calls rv nr _ W0 lo hi h'.r (by omega) (by omega) (by omega)
  have c3 : Hid (Calls Try.prog 39 #[qv, .int .i64 (k + szP os + nr)] W0 fun e w' => e = .returned (.int .i64 (k + szP os + nr + (nq : Nat))) ∧ w' = W0) := heldInts_calls qv nq _ W0 lo hi h'.q (by omega) (by omega) (by omega)
  have b1 : ¬ (k + (szP os : Int) < 0) := by omega
  have b2 : ¬ (k + (szP os : Int) + nr < 0) := by omega
  have b3 : ¬ (k + (szP os : Int) + nr + nq < 0) := by omega
  obtain ⟨oa, oc, rfl⟩ := h.o.form
  obtain ⟨ra, rc, rfl⟩ := h.r.form
  obtain ⟨qa, qc, rfl⟩ := h.q.form
  rw [markP_length] at *
  rw [iota_length] at *
  rw [iota_length] at *
  clear h h' hg
  go_enter Try.func23, Try.ntmps23
  go_upto_region 1 with fail
  rw [← hW0]
  have k0 : W0.cell? ⟨w.heap.size, 0, none⟩ = some (.slice oa os.length oc) := hr 0 _ rfl
  have k1 : W0.cell? ⟨w.heap.size, 1, none⟩ = some (.slice ra nr rc) := hr 1 _ rfl
  have k3 : W0.cell? ⟨w.heap.size, 3, none⟩ = some (.slice qa nq qc) := hr 3 _ rfl
  clear hW0 hr
  go_wp2_with fail
  refine (show Calls _ _ _ _ _ from c1.out).mono ?_
  rintro e w1 ⟨rfl, hw⟩
  subst hw
  go_wp2_with fail
  refine (show Calls _ _ _ _ _ from c2.out).mono ?_
  rintro e w2 ⟨rfl, hw⟩
  subst hw
  go_wp2_with fail
  refine (show Calls _ _ _ _ _ from c3.out).mono ?_
  rintro e w3 ⟨rfl, hw⟩
  subst hw
  go_wp2
  go_ret
  exact ⟨rfl, hB.out⟩
set_option maxRecDepth 100000 in
set_option maxHeartbeats 1000000 in
theorem eqHeap_calls (o1 r1 q1 o2 r2 q2 : Value) (cyc : Bool) (os : List ObP) (rs qs : List Int) (w : World) (lo1 hi1 lo2 hi2 : Nat) (hh1 : hi1 ≤ w.heap.size) (hh2 : hi2 ≤ w.heap.size) (h1 : HpR lo1 hi1 w o1 r1 q1 os rs qs) (h2 : HpR lo2 hi2 w o2 r2 q2 os rs qs) (hn : os.length ≤ 400) (hg : ∀ x ∈ os, x.flds.length ≤ 6) (hr : rs.length ≤ 8) (hq : qs.length ≤ 400) :
    Calls Try.prog 21 #[.agg #[o1, r1, .bool cyc, q1], .agg #[o2, r2, .bool cyc, q2]] w fun e w' => e = .returned (.bool true) ∧ Below w.heap.size w w' := by
  obtain ⟨W0, hW0⟩ : ∃ W0, W0 = (w.alloc (.cells #[o1, r1, .bool cyc, q1] 37)).alloc (.cells #[o2, r2, .bool cyc, q2] 37) := ⟨_, rfl⟩
  have hB : Hid (Below w.heap.size w W0) := by rw [hW0]; exact below_on2 (below_1 _ _) (below_1 _ _)
  have hs1 : w.heap.size + 1 < W0.heap.size := by rw [hW0]; simp
  have hr1 : W0.rangeAt w.heap.size 0 [o1, r1, .bool cyc, q1] := by
    rw [hW0]
    exact rangeB (below_1 _ _) (by simp) (rangeAt_heap (heap_alloc_new w _))
  have hr2 : W0.rangeAt (w.heap.size + 1) 0 [o2, r2, .bool cyc, q2] := by
    rw [hW0]
    have := rangeAt_heap (heap_alloc_new (w.alloc (.cells #[o1, r1, .bool cyc, q1] 37)) (.cells #[o2, r2, .bool cyc, q2] 37))
    rwa [World.size_alloc] at this
  have hc : Hid (∀ W, Below W0.heap.size W0 W → W.rangeAt w.heap.size 0 [o1, r1, .bool cyc, q1] ∧ W.rangeAt (w.heap.size + 1) 0 [o2, r2, .bool cyc, q2]) := fun W hW => ⟨rangeB hW (by omega) hr1, rangeB hW hs1 hr2⟩
  have cO : Hid (∀ W, Below w.heap.size w W → Calls Try.prog 41 #[o1, o2] W fun e w' => e = .returned (.bool true) ∧ Below W.heap.size W w') := fun W hW => eqObjS_calls o1 o2 os W lo1 hi1 lo2 hi2 (by have := hW.size; omega) (by have := hW.size; omega) (h1.o.kept ((Same.below hW).mono (Nat.zero_le _) hh1)) (h2.o.kept ((Same.below hW).mono (Nat.zero_le _) hh2)) hn hg
  have cR : Hid (∀ W, Below w.heap.size w W → Calls Try.prog 42 #[r1, r2] W fun e w' => e = .returned (.bool true) ∧ Below W.heap.size W w') := fun W hW => (eqInts_calls r1 r2 rs W lo1 hi1 lo2 hi2 (h1.r.kept ((Same.below hW).mono (Nat.zero_le _) hh1)) (h2.r.kept ((Same.below hW).mono (Nat.zero_le _) hh2)) (by omega)).mono (by rintro e w' ⟨rfl, n, rfl⟩; exact ⟨rfl, below_drewN (Below.refl _ _) n⟩)
  have cQ : Hid (∀ W, Below w.heap.size w W → Calls Try.prog 42 #[q1, q2] W fun e w' => e = .returned (.bool true) ∧ Below W.heap.size W w') := fun W hW => (eqInts_calls q1 q2 qs W lo1 hi1 lo2 hi2 (h1.q.kept ((Same.below hW).mono (Nat.zero_le _) hh1)) (h2.q.kept ((Same.below hW).mono (Nat.zero_le _) hh2)) (by omega)).mono (by rintro e w' ⟨rfl, n, rfl⟩; exact ⟨rfl, below_drewN (Below.refl _ _) n⟩)
  obtain ⟨a1, c1, rfl⟩ := h1.o.form
  obtain ⟨a2, c2, rfl⟩ := h2.o.form
  obtain ⟨a3, c3, rfl⟩ := h1.r.form
  obtain ⟨a4, c4, rfl⟩ := h2.r.form
  obtain ⟨a5, c5, rfl⟩ := h1.q.form
  obtain ⟨a6, c6, rfl⟩ := h2.q.form
  clear h1 h2 hg hs1
  go_enter Try.func21, Try.ntmps21
  go_upto_region 1 with fail
  rw [← hW0]
  have k0 : W0.cell? ⟨w.heap.size, 0, none⟩ = some (.slice a1 os.length c1) := hr1 0 _ rfl
  have k4 : W0.cell? ⟨w.heap.size + 1, 0, none⟩ = some (.slice a2 os.length c2) := hr2 0 _ rfl
  clear hW0 hr1 hr2
  go_wp2_with fail
  refine (show Calls _ _ _ _ _ from cO.out _ hB.out).mono ?_
  rintro e w1 ⟨rfl, hb1⟩
  have H1 : Hid (Below W0.heap.size W0 w1) := hb1
  have k1 : w1.cell? ⟨w.heap.size, 1, none⟩ = some (.slice a3 rs.length c3) := (hc.out _ hb1).1 1 _ rfl
  have k5 : w1.cell? ⟨w.heap.size + 1, 1, none⟩ = some (.slice a4 rs.length c4) := (hc.out _ hb1).2 1 _ rfl
  clear hb1 k0 k4
  go_wp2_with fail
  refine (show Calls _ _ _ _ _ from cR.out _ (below_on2 hB.out H1.out)).mono ?_
  rintro e w2 ⟨rfl, hb2⟩
  have H2 : Hid (Below W0.heap.size W0 w2) := below_on2 H1.out hb2
  have k2 : w2.cell? ⟨w.heap.size, 2, none⟩ = some (.bool cyc) := (hc.out _ H2.out).1 2 _ rfl
  have k6 : w2.cell? ⟨w.heap.size + 1, 2, none⟩ = some (.bool cyc) := (hc.out _ H2.out).2 2 _ rfl
  have k3 : w2.cell? ⟨w.heap.size, 3, none⟩ = some (.slice a5 qs.length c5) := (hc.out _ H2.out).1 3 _ rfl
  have k7 : w2.cell? ⟨w.heap.size + 1, 3, none⟩ = some (.slice a6 qs.length c6) := (hc.out _ H2.out).2 3 _ rfl
  have hcc : (cyc != cyc) = false := by simp
  clear hb2 k1 k5 H1
  go_wp2_with fail
  refine (show Calls _ _ _ _ _ from cQ.out _ (below_on2 hB.out H2.out)).mono ?_
  rintro e w3 ⟨rfl, hb3⟩
  have H3 : Hid (Below W0.heap.size W0 w3) := below_on2 H2.out hb3
  clear hb3 k2 k6 k3 k7
  go_wp2
  go_ret
  exact ⟨rfl, below_on2 hB.out H3.out⟩
end Go.Proofs.Ytcigiilhlealdaa

/- A heap marked. -/
namespace Go.Proofs.Ytcigiilhlealdaa
set_option linter.unusedVariables false
open Go.ChangeShapes Go.WideShapes Go.ChangeAt Go.RowKit

/-- A heap that was given back: objects, roots and row in blocks that lie apart. -/
structure HpX (lo m1 m2 hi : Nat) (w : World) (ov rv qv : Value) (os : List ObP) (rs qs : List Int) (b c : Nat) (gs : List Value) : Prop where
  n : lo ≤ m1 ∧ m1 ≤ m2 ∧ m2 ≤ hi ∧ hi ≤ w.heap.size
  o : ObjX lo m1 w ov os b c gs
  r : IntsAt m1 m2 w rv rs
  q : IntsAt m2 hi w qv qs
theorem HpX.kept {lo m1 m2 hi : Nat} {w w' : World} {ov rv qv : Value} {os : List ObP} {rs qs : List Int} {b c : Nat} {gs : List Value} (h : HpX lo m1 m2 hi w ov rv qv os rs qs b c gs) (hs : Same lo hi w w') (hz : w.heap.size ≤ w'.heap.size) : HpX lo m1 m2 hi w' ov rv qv os rs qs b c gs := by
  have n := h.n
  exact ⟨by omega, h.o.kept (hs.mono (Nat.le_refl _) (by omega)) hz, h.r.kept (hs.mono (by omega) (by omega)), h.q.kept (hs.mono (by omega) (Nat.le_refl _))⟩
theorem ObjR.mono {lo hi lo' hi' : Nat} {w : World} {v : Value} {xs : List ObP} (h : ObjR lo hi w v xs) (h1 : lo' ≤ lo) (h2 : hi ≤ hi') : ObjR lo' hi' w v xs := ⟨h.form, fun j hj => by
  obtain ⟨b, o, c, gv, g1, g2, g3, g4, g5⟩ := h.at_ j hj
  exact ⟨b, o, c, gv, g1, by omega, by omega, g4, g5.mono h1 h2⟩⟩
theorem HpX.read {lo m1 m2 hi : Nat} {w : World} {ov rv qv : Value} {os : List ObP} {rs qs : List Int} {b c : Nat} {gs : List Value} (h : HpX lo m1 m2 hi w ov rv qv os rs qs b c gs) : HpR lo hi w ov rv qv os rs qs := by
  have n := h.n
  exact ⟨h.o.read.mono (Nat.le_refl _) (by omega), h.r.mono (by omega) (by omega), h.q.mono (by omega) (Nat.le_refl _)⟩
theorem rangeT {W W' : World} {a b g : Nat} {cs : List Value} (hT : Touch a b W W') (hg : g < W.heap.size) (hd : g < a ∨ b ≤ g) (h : W.rangeAt g 0 cs) : W'.rangeAt g 0 cs := fun j v hj => ((hT.2.2 ⟨g, 0 + j, none⟩ hg).1 hd).trans (h j v hj)
set_option maxRecDepth 100000 in
set_option maxHeartbeats 1000000 in
theorem markHeap_calls (rv qv : Value) (cyc : Bool) (os : List ObP) (rs qs : List Int) (k : Int) (w : World) (lo m1 m2 hi b c : Nat) (gs : List Value) (h : HpX lo m1 m2 hi w (.slice (some ⟨b, 0, none⟩) os.length c) rv qv os rs qs b c gs) (hk0 : 0 ≤ k) (hk1 : k ≤ 1000) (hn : os.length ≤ 400) (hg : ∀ x ∈ os, x.flds.length ≤ 6) (h1 : rs.length ≤ 8) (h2 : qs.length ≤ 400) :
    Calls Try.prog 22 #[.agg #[.slice (some ⟨b, 0, none⟩) os.length c, rv, .bool cyc, qv], .int .i64 k] w fun e w' => e = .returned (.int .i64 (k + szP os + rs.length + qs.length)) ∧ Touch lo hi w w' ∧ HpR lo hi w' (.slice (some ⟨b, 0, none⟩) os.length c) rv qv (markP k os) (iota (k + szP os) rs.length) (iota (k + szP os + rs.length) qs.length) := by
  have hsz := szP_bound os hg
  have n := h.n
  obtain ⟨W0, hW0⟩ : ∃ W0, W0 = w.alloc (.cells #[.slice (some ⟨b, 0, none⟩) os.length c, rv, .bool cyc, qv] 37) := ⟨_, rfl⟩
  have hB : Below w.heap.size w W0 := by rw [hW0]; exact below_1 _ _
  have hs0 : w.heap.size < W0.heap.size := by rw [hW0]; simp
  have hr0 : W0.rangeAt w.heap.size 0 [.slice (some ⟨b, 0, none⟩) os.length c, rv, .bool cyc, qv] := by rw [hW0]; exact rangeAt_heap (heap_alloc_new w _)
  have h0 := h.kept ((Same.below hB).mono (Nat.zero_le _) n.2.2.2) hB.size
  have hT0 : Touch lo hi w W0 := Touch.below hB (by omega)
  have c1 : Hid (Calls Try.prog 43 #[.slice (some ⟨b, 0, none⟩) os.length c, .int .i64 k] W0 fun e w' => e = .returned (.int .i64 (k + szP os)) ∧ Touch lo hi w w' ∧ w'.heap.size ≥ W0.heap.size ∧ w'.rangeAt w.heap.size 0 [.slice (some ⟨b, 0, none⟩) os.length c, rv, .bool cyc, qv] ∧ ObjR lo m1 w' (.slice (some ⟨b, 0, none⟩) os.length c) (markP k os) ∧ IntsAt m1 m2 w' rv rs ∧ IntsAt m2 hi w' qv qs) := by
    refine (markObjS_calls os k W0 lo m1 b c gs h0.o hk0 (by omega) hn hg).mono ?_
    rintro e w' ⟨he, hT, hX⟩
    exact ⟨he, hT0.trans (hT.mono (Nat.le_refl _) (by omega)), hT.1, rangeT hT hs0 (by omega) hr0, hX.read, h0.r.kept (hT.same (by omega) (.inr (Nat.le_refl _))), h0.q.kept (hT.same (by omega) (.inr (by omega)))⟩
  have c2 : Hid (∀ W : World, Touch lo hi w W → W.heap.size ≥ W0.heap.size → W.rangeAt w.heap.size 0 [.slice (some ⟨b, 0, none⟩) os.length c, rv, .bool cyc, qv] → ObjR lo m1 W (.slice (some ⟨b, 0, none⟩) os.length c) (markP k os) → IntsAt m1 m2 W rv rs → IntsAt m2 hi W qv qs → Calls Try.prog 38 #[rv, .int .i64 (k + szP os)] W fun e w' => e = .returned (.int .i64 (k + szP os + rs.length)) ∧ Touch lo hi w w' ∧ w'.heap.size ≥ W0.heap.size ∧ w'.rangeAt w.heap.size 0 [.slice (some ⟨b, 0, none⟩) os.length c, rv, .bool cyc, qv] ∧ ObjR lo m1 w' (.slice (some ⟨b, 0, none⟩) os.length c) (markP k os) ∧ IntsAt m1 m2 w' rv (iota (k + szP os) rs.length) ∧ IntsAt m2 hi w' qv qs) := fun W t1 t2 t3 t4 t5 t6 => by
    refine (markInts_calls rv rs (k + szP os) W m1 m2 (by omega) t5 (by omega) (by omega) (by omega)).mono ?_
    rintro e w' ⟨he, hT, hX⟩
    exact ⟨he, t1.trans (hT.mono (by omega) (by omega)), Nat.le_trans t2 hT.1, rangeT hT (by omega) (by omega) t3, t4.kept (hT.same (by omega) (.inl (Nat.le_refl _))), hX, t6.kept (hT.same (by omega) (.inr (Nat.le_refl _)))⟩
  have c3 : Hid (∀ W : World, Touch lo hi w W → W.heap.size ≥ W0.heap.size → ObjR lo m1 W (.slice (some ⟨b, 0, none⟩) os.length c) (markP k os) → IntsAt m1 m2 W rv (iota (k + szP os) rs.length) → IntsAt m2 hi W qv qs → Calls Try.prog 38 #[qv, .int .i64 (k + szP os + rs.length)] W fun e w' => e = .returned (.int .i64 (k + szP os + rs.length + qs.length)) ∧ Touch lo hi w w' ∧ HpR lo hi w' (.slice (some ⟨b, 0, none⟩) os.length c) rv qv (markP k os) (iota (k + szP os) rs.length) (iota (k + szP os + rs.length) qs.length)) := fun W t1 t2 t4 t5 t6 => by
    refine (markInts_calls qv qs (k + szP os + rs.length) W m2 hi (by omega) t6 (by omega) (by omega) (by omega)).mono ?_
    rintro e w' ⟨he, hT, hX⟩
    exact ⟨he, t1.trans (hT.mono (by omega) (Nat.le_refl _)), (t4.kept (hT.same (by omega) (.inl (by omega)))).mono (Nat.le_refl _) (by omega), (t5.kept (hT.same (by omega) (.inl (Nat.le_refl _)))).mono (by omega) (by omega), hX.mono (by omega) (Nat.le_refl _)⟩
  obtain ⟨ra, rc, rfl⟩ := h.r.form
  obtain ⟨qa, qc, rfl⟩ := h.q.form
  have hk2 : k + (szP os : Int) + rs.length + qs.length ≤ 100000 := by omega
  clear h h0 hg hB hs0 hT0 n
  go_enter Try.func22, Try.ntmps22
  go_upto_region 1 with fail
  rw [← hW0]
  have k0 : W0.cell? ⟨w.heap.size, 0, none⟩ = some (.slice (some ⟨b, 0, none⟩) os.length c) := hr0 0 _ rfl
  clear hW0 hr0
  go_wp2_with fail
  refine (show Calls _ _ _ _ _ from c1.out).mono ?_
  rintro e w1 ⟨rfl, s1, s2, s3, s4, s5, s6⟩
  have d2 : Hid _ := c2.out w1 s1 s2 s3 s4 s5 s6
  have k1 : w1.cell? ⟨w.heap.size, 1, none⟩ = some (.slice ra rs.length rc) := s3 1 _ rfl
  clear s1 s2 s3 s4 s5 s6 k0 c1 c2
  go_wp2_with fail
  refine (show Calls _ _ _ _ _ from d2.out).mono ?_
  rintro e w2 ⟨rfl, s1, s2, s3, s4, s5, s6⟩
  have d3 : Hid _ := c3.out w2 s1 s2 s4 s5 s6
  have k3 : w2.cell? ⟨w.heap.size, 3, none⟩ = some (.slice qa qs.length qc) := s3 3 _ rfl
  clear s1 s2 s3 s4 s5 s6 k1 d2 c3
  go_wp2_with fail
  refine (show Calls _ _ _ _ _ from d3.out).mono ?_
  rintro e w3 ⟨rfl, s1, s2⟩
  have S : Hid (_ ∧ _) := ⟨s1, s2⟩
  clear s1 s2 d3 k3
  go_wp2
  go_ret
  exact ⟨rfl, S.out.1, S.out.2⟩
end Go.Proofs.Ytcigiilhlealdaa
