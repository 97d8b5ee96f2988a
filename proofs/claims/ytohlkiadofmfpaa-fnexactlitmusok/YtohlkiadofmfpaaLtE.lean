/- The law of LitmusOk, walked. -/
import Derived.Test.YtohlkiadofmfpaaLtD
namespace Go.Proofs.Ytohlkiadofmfpaa
set_option linter.unusedVariables false
open Go.ChangeShapes Go.WideShapes Go.ChangeAt Go.RowKit

structure Rec1 (w W : World) (I : List Value) : Prop where
  hb : Below w.heap.size w W
  sz : w.heap.size + 1 ≤ W.heap.size
  one : W.rangeAt w.heap.size 0 I
theorem Rec1.start {w W : World} {I : Array Value} {t : TypeId} (hW : W = w.alloc (.cells I t)) : Rec1 w W I.toList := by
  have h0 : W.heap[w.heap.size]? = some (.cells I t (0, 0)) := by rw [hW]; exact heap_alloc_new w _
  exact ⟨by rw [hW]; exact below_1 _ _, by rw [hW]; simp, rangeAt_heap h0⟩
theorem Rec1.call {w W w1 : World} {I : List Value} (h : Rec1 w W I) (hb : Below W.heap.size W w1) : Rec1 w w1 I := by
  obtain ⟨h1, h2, h3⟩ := h
  have := hb.size
  exact ⟨below_on2 h1 hb, by omega, rangeAt_same (Same.below hb) (Nat.zero_le _) (by omega) h3⟩
theorem Rec1.cell {w W : World} {I : List Value} (h : Rec1 w W I) (i : Nat) (v : Value) (hv : I[i]? = some v) : W.cell? ⟨w.heap.size, i, none⟩ = some v := by simpa using h.one i v hv

def LitL.sz (x : LitL) : Nat := sumL List.length x.thr
def LitL.upto (x : LitL) : Prop := x.thr.length ≤ 9223372036854775807 ∧ ∀ y ∈ x.thr, y.length ≤ 9223372036854775807
theorem LitL.small_of_sz {x : LitL} (h : x.sz ≤ 1048576) : x.small := by
  unfold LitL.sz sumL at h
  exact ⟨by omega, fun y hy => by have := sum_mem_le List.length x.thr y hy; omega⟩

set_option maxRecDepth 1000000 in
theorem szLit_calls (x : LitL) (hy : x.upto) : ElemSz 4 4 LitR LitL.sz x := by
  intro w row own lo hi l hh hx hl hl0 hl1
  obtain ⟨p, rfl, hp⟩ := hx
  have c1 : Hid (∀ (W : World), Below w.heap.size w W → Calls Try.prog 9 #[p, .int .i64 l] W fun e w' => SzQ l (sumL List.length x.thr) e ∧ Below W.heap.size W w') := fun W hW =>
    szActSS_calls p x.thr W own lo hi l (Nat.le_trans hh hW.size) (hp.kept ThrR.stable (Nat.le_refl _) (Nat.le_refl _) ((Same.below hW).mono (Nat.zero_le _) hh)) hy.1 hl0 hl1 (fun y hy1 => szActS_calls y (hy.2 y hy1))
  obtain ⟨a1, k1, rfl⟩ := hp.form
  unfold LitL.sz
  generalize sumL List.length x.thr = n1 at *
  generalize x.thr.length = m1 at *
  clear hp hl hh hy
  by_cases h1 : l < n1
  · go_enter Try.func4, Try.ntmps4
    go_wp2_with (first | (go_at_call 9; refine (c1.out _ (below_1 _ _)).mono ?_; rintro e w1 ⟨⟨r, rfl, hr1, hr2⟩, hb1⟩; obtain rfl := hr1 h1))
    go_ret
    exact ⟨SzQ.neg h1, below_on2 (below_1 _ _) hb1⟩
  · go_enter Try.func4, Try.ntmps4
    go_wp2_with (first | (go_at_call 9; refine (c1.out _ (below_1 _ _)).mono ?_; rintro e w1 ⟨⟨r, rfl, hr1, hr2⟩, hb1⟩; obtain rfl := hr2 (by omega)))
    go_ret
    exact ⟨SzQ.pos (by omega) rfl, below_on2 (below_1 _ _) hb1⟩

theorem LitR.shape {own : Bool} {lo hi : Nat} {w : World} {row : List Value} {x : LitL} (h : LitR own lo hi w row x) : ∃ a3 c3, row = [.int .i64 x.vars, .int .i64 x.vol, .int .i64 x.locks, .slice a3 (x.thr).length c3] := by
  obtain ⟨v3, rfl, h3⟩ := h
  obtain ⟨a3, c3, rfl⟩ := h3.form
  exact ⟨a3, c3, rfl⟩

set_option maxRecDepth 1000000 in
set_option maxHeartbeats 4000000 in
theorem lawLit_calls (x : LitL) (row : List Value) (w : World) (hx : LitR false 0 w.heap.size w row x) (hu : x.upto)
    (im : x.small → ∀ (W : World) (r : List Value) (lo hi : Nat), hi ≤ W.heap.size → Below w.heap.size w W → LitR true lo hi W r x → Calls Try.prog 7 #[.agg r.toArray] W fun e w' => e = .returned (.bool (litB x)) ∧ Below W.heap.size W w') :
    Calls Try.prog 3 #[.agg row.toArray] w fun e w' => e = .returned (.bool true) ∧ Below w.heap.size w w' := by
  have inH : Hid (∀ W, Below w.heap.size w W → LitR false 0 w.heap.size W row x) := fun W hW => LitR.stable _ _ _ _ _ _ _ _ _ hx (Nat.le_refl _) (Nat.le_refl _) (Same.below hW)
  have szH : Hid (∀ W, Below w.heap.size w W → Calls Try.prog 4 #[.agg row.toArray, .int .i64 1048576] W fun e w' => SzQ 1048576 x.sz e ∧ Below W.heap.size W w') := fun W hW => szLit_calls x hu W row false 0 w.heap.size 1048576 hW.size (inH.out W hW) (by obtain ⟨_, _, rfl⟩ := hx.shape; rfl) (by omega) (by omega)
  have toH : Hid (x.small → ∀ W, Below w.heap.size w W → Calls Try.prog 6 #[.agg row.toArray] W fun e w' => ∃ row' : List Value, e = .returned (.agg row'.toArray) ∧ LitR true W.heap.size w'.heap.size w' row' x ∧ Below W.heap.size W w') := fun hs W hW =>
    (toLit_calls x w.heap.size hs W row hW.size (inH.out W hW) (by obtain ⟨_, _, rfl⟩ := hx.shape; rfl)).mono (by rintro e w' ⟨row', rfl, _, _, hr, hb⟩; exact ⟨row', rfl, hr, hb⟩)
  have spH : Hid (x.small → ∀ W r lo hi, hi ≤ W.heap.size → LitR true lo hi W r x → Calls Try.prog 5 #[.agg r.toArray] W fun e w' => e = .returned (.bool (litB x)) ∧ Below W.heap.size W w') := fun hs W r lo hi hh hr => litS_calls x W r lo hi hh hr hs
  have imH : Hid (x.small → ∀ W r lo hi, hi ≤ W.heap.size → Below w.heap.size w W → LitR true lo hi W r x → Calls Try.prog 7 #[.agg r.toArray] W fun e w' => e = .returned (.bool (litB x)) ∧ Below W.heap.size W w') := im
  have eqH : Hid (x.small → ∀ W r1 r2 lo1 hi1 lo2 hi2, hi1 ≤ W.heap.size → hi2 ≤ W.heap.size → LitR true lo1 hi1 W r1 x → LitR true lo2 hi2 W r2 x → Calls Try.prog 8 #[.agg r1.toArray, .agg r2.toArray] W fun e w' => e = .returned (.bool true) ∧ Below W.heap.size W w') := fun hs W r1 r2 lo1 hi1 lo2 hi2 g1 g2 q1 q2 =>
    eqLit_calls x hs W r1 r2 lo1 hi1 lo2 hi2 g1 g2 q1 q2 (by obtain ⟨_, _, rfl⟩ := q1.shape; rfl) (by obtain ⟨_, _, rfl⟩ := q2.shape; rfl)
  generalize litB x = mb at *
  obtain ⟨a3, c3, rfl⟩ := hx.shape
  clear hx hu im inH
  go_enter Try.func3, Try.ntmps3
  go_wp2_with fail
  obtain ⟨W0, hW0⟩ : ∃ W : World, W = w.alloc (.cells #[.int .i64 x.vars, .int .i64 x.vol, .int .i64 x.locks, .slice a3 (x.thr).length c3] 24) := ⟨_, rfl⟩
  rw [← hW0]
  have r0 : Hid (Rec1 w W0 [.int .i64 x.vars, .int .i64 x.vol, .int .i64 x.locks, .slice a3 (x.thr).length c3]) := Rec1.start hW0
  clear hW0
  refine (szH.out _ r0.out.hb).mono ?_
  rintro e w1 ⟨⟨r, rfl, hr1, hr2⟩, hb1⟩
  have r1 : Hid (Rec1 w w1 [.int .i64 x.vars, .int .i64 x.vol, .int .i64 x.locks, .slice a3 (x.thr).length c3]) := r0.out.call hb1
  clear hb1
  by_cases hbig : (1048576 : Int) < x.sz
  · obtain rfl := hr1 hbig
    go_wp2
    go_ret
    exact ⟨rfl, r1.out.hb⟩
  obtain rfl := hr2 (by omega)
  have hsm : x.small := LitL.small_of_sz (by omega)
  have toH2 := toH.out hsm
  have spH2 := spH.out hsm
  have imH2 := imH.out hsm
  have eqH2 := eqH.out hsm
  have toK : Hid (∀ W, Below w.heap.size w W → Calls Try.prog 6 #[.agg #[.int .i64 x.vars, .int .i64 x.vol, .int .i64 x.locks, .slice a3 (x.thr).length c3]] W fun e w' => ∃ row' : List Value, e = .returned (.agg row'.toArray) ∧ LitR true W.heap.size w'.heap.size w' row' x ∧ Below W.heap.size W w') := toH2
  have spK := (show Hid _ from spH2)
  have imK := (show Hid _ from imH2)
  have eqK := (show Hid _ from eqH2)
  have hpos : (0 : Int) ≤ 1048576 - x.sz := by omega
  clear toH spH imH eqH toH2 spH2 imH2 eqH2 hr1 hr2 szH hsm
  have y0 := r1.out.cell 0 _ rfl
  have y1 := r1.out.cell 1 _ rfl
  have y2 := r1.out.cell 2 _ rfl
  have y3 := r1.out.cell 3 _ rfl
  go_wp2_with fail
  refine (toK.out _ r1.out.hb).mono ?_
  rintro e w2 ⟨q2, rfl, m2, hb2⟩
  have r2 : Hid (Rec1 w w2 [.int .i64 x.vars, .int .i64 x.vol, .int .i64 x.locks, .slice a3 (x.thr).length c3]) := r1.out.call hb2
  clear y0 y1 y2 y3
  go_wp2_with fail
  refine (spK.out _ q2 _ _ (Nat.le_refl _) m2).mono ?_
  rintro e w3 ⟨rfl, hb3⟩
  have r3 : Hid (Rec1 w w3 [.int .i64 x.vars, .int .i64 x.vol, .int .i64 x.locks, .slice a3 (x.thr).length c3]) := r2.out.call hb3
  clear hb2 hb3 m2
  have y0 := r3.out.cell 0 _ rfl
  have y1 := r3.out.cell 1 _ rfl
  have y2 := r3.out.cell 2 _ rfl
  have y3 := r3.out.cell 3 _ rfl
  go_wp2_with fail
  refine (toK.out _ r3.out.hb).mono ?_
  rintro e w4 ⟨q4, rfl, m4, hb4⟩
  have r4 : Hid (Rec1 w w4 [.int .i64 x.vars, .int .i64 x.vol, .int .i64 x.locks, .slice a3 (x.thr).length c3]) := r3.out.call hb4
  clear y0 y1 y2 y3
  obtain ⟨u3, d3, rfl⟩ := m4.shape
  have m4H : Hid (LitR true w3.heap.size w4.heap.size w4 [.int .i64 x.vars, .int .i64 x.vol, .int .i64 x.locks, .slice u3 (x.thr).length d3] x) := m4
  clear m4 hb4
  go_wp2_with fail
  have hBV : Below w.heap.size w (w4.alloc (.cells #[.int .i64 x.vars, .int .i64 x.vol, .int .i64 x.locks, .slice u3 (x.thr).length d3] 29)) := below_on2 r4.out.hb (below_1 _ _)
  have rV : Hid (Rec1 w (w4.alloc (.cells #[.int .i64 x.vars, .int .i64 x.vol, .int .i64 x.locks, .slice u3 (x.thr).length d3] 29)) [.int .i64 x.vars, .int .i64 x.vol, .int .i64 x.locks, .slice a3 (x.thr).length c3]) := r4.out.call (below_1 _ _)
  refine (imK.out _ [.int .i64 x.vars, .int .i64 x.vol, .int .i64 x.locks, .slice u3 (x.thr).length d3] w3.heap.size w4.heap.size (by simp) hBV (LitR.stable _ _ _ _ _ _ _ _ _ m4H.out (Nat.le_refl _) (Nat.le_refl _) ((Same.below (below_1 _ _)).mono (Nat.zero_le _) (Nat.le_refl _)))).mono ?_
  rintro e w5 ⟨rfl, hb5⟩
  have r5 : Hid (Rec1 w w5 [.int .i64 x.vars, .int .i64 x.vol, .int .i64 x.locks, .slice a3 (x.thr).length c3]) := rV.out.call hb5
  have hb45 : Below w4.heap.size w4 w5 := below_on2 (below_1 _ _) hb5
  have m5K : Hid (∀ W, Below w5.heap.size w5 W → w4.heap.size ≤ W.heap.size ∧ LitR true w3.heap.size w4.heap.size W [.int .i64 x.vars, .int .i64 x.vol, .int .i64 x.locks, .slice u3 (x.thr).length d3] x) := fun W hW =>
    ⟨Nat.le_trans hb45.size hW.size, LitR.stable _ _ _ _ _ _ _ _ _ m4H.out (Nat.le_refl _) (Nat.le_refl _) ((Same.below (below_on2 hb45 hW)).mono (Nat.zero_le _) (Nat.le_refl _))⟩
  have hX5 : w5.rangeAt w4.heap.size 0 [.int .i64 x.vars, .int .i64 x.vol, .int .i64 x.locks, .slice u3 (x.thr).length d3] := rangeAt_same (Same.below hb5) (Nat.zero_le _) (by simp) (rangeAt_heap (heap_alloc_new w4 _))
  have hXlt : w4.heap.size < w5.heap.size := by have := hb5.size; simp at this; omega
  have hmk : Hid (∀ W, Below w5.heap.size w5 W → (Below w5.heap.size w5 W ∧ W.cell? ⟨w.heap.size, 0, none⟩ = some (.int .i64 x.vars) ∧ W.cell? ⟨w.heap.size, 1, none⟩ = some (.int .i64 x.vol) ∧ W.cell? ⟨w.heap.size, 2, none⟩ = some (.int .i64 x.locks) ∧ W.cell? ⟨w.heap.size, 3, none⟩ = some (.slice a3 (x.thr).length c3) ∧ W.cell? ⟨w4.heap.size, 0, none⟩ = some (.int .i64 x.vars) ∧ W.cell? ⟨w4.heap.size, 1, none⟩ = some (.int .i64 x.vol) ∧ W.cell? ⟨w4.heap.size, 2, none⟩ = some (.int .i64 x.locks) ∧ W.cell? ⟨w4.heap.size, 3, none⟩ = some (.slice u3 (x.thr).length d3))) := fun W hW => by
    have rW := r5.out.call hW
    have kp := rangeAt_same (Same.below hW) (Nat.zero_le _) hXlt hX5
    simp only [World.rangeAt, Nat.zero_add] at kp
    exact ⟨hW, rW.cell 0 _ rfl, rW.cell 1 _ rfl, rW.cell 2 _ rfl, rW.cell 3 _ rfl, kp 0 _ rfl, kp 1 _ rfl, kp 2 _ rfl, kp 3 _ rfl⟩
  have eqC : Hid (∀ (W : World) (lo : Nat) (q : List Value) (hi : Nat), Below w5.heap.size w5 W → LitR true lo W.heap.size W q x → Calls Try.prog 8 #[.agg #[.int .i64 x.vars, .int .i64 x.vol, .int .i64 x.locks, .slice u3 (x.thr).length d3], .agg q.toArray] W fun e w' => e = .returned (.bool true) ∧ Below W.heap.size W w') := fun W lo q hi hW hq => eqK.out W [.int .i64 x.vars, .int .i64 x.vol, .int .i64 x.locks, .slice u3 (x.thr).length d3] q w3.heap.size w4.heap.size lo W.heap.size (m5K.out W hW).1 (Nat.le_refl _) (m5K.out W hW).2 hq
  have hxx : (mb != mb) = false := by simp
  have hS0 := hmk.out w5 (Below.refl _ _)
  have hB5 : Hid (Below w.heap.size w w5) := r5.out.hb
  clear hBV rV hb5 hb45 hX5 hXlt r0 r1 r2 r3 r4 r5 spK imK
  go_wp2
  go_region_held3 (fun W => Below w5.heap.size w5 W ∧ W.cell? ⟨w.heap.size, 0, none⟩ = some (.int .i64 x.vars) ∧ W.cell? ⟨w.heap.size, 1, none⟩ = some (.int .i64 x.vol) ∧ W.cell? ⟨w.heap.size, 2, none⟩ = some (.int .i64 x.locks) ∧ W.cell? ⟨w.heap.size, 3, none⟩ = some (.slice a3 (x.thr).length c3) ∧ W.cell? ⟨w4.heap.size, 0, none⟩ = some (.int .i64 x.vars) ∧ W.cell? ⟨w4.heap.size, 1, none⟩ = some (.int .i64 x.vol) ∧ W.cell? ⟨w4.heap.size, 2, none⟩ = some (.int .i64 x.locks) ∧ W.cell? ⟨w4.heap.size, 3, none⟩ = some (.slice u3 (x.thr).length d3)) (first | assumption | exact hmk.out _ (Below.drew (And.left (by assumption))) | exact hmk.out _ (below_on2 (And.left (by assumption)) (by assumption))) (first | (go_at_call 6; refine (toK.out _ (below_on2 hB5.out (And.left (by assumption)))).mono ?_; rintro e7 w7 ⟨q7, rfl, m7, hb7⟩) | (go_at_call 8; refine (eqC.out w7 _ q7 0 (by first | assumption | exact And.left (by assumption) | exact below_on2 (And.left (by assumption)) (by assumption)) m7).mono ?_; rintro e9 w9 ⟨rfl, hb9⟩))
  go_wp2
  go_ret
  exact ⟨rfl, by first | exact below_on2 hB5.out (And.left (by assumption)) | exact below_on2 (below_on2 (below_on2 hB5.out (And.left (by assumption))) hb7) hb9⟩
end Go.Proofs.Ytohlkiadofmfpaa
