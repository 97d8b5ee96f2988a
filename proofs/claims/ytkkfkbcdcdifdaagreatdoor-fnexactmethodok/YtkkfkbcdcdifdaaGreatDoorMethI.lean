/- The law of MethodOk, walked. -/
import Derived.Test.YtkkfkbcdcdifdaaGreatDoorMethH
import Derived.Test.YtkkfkbcdcdifdaaGreatDoorDeepE
namespace Go.Proofs.YtkkfkbcdcdifdaaGreatDoor
set_option linter.unusedVariables false
open Go.ChangeShapes Go.WideShapes Go.ChangeAt Go.RowKit

theorem MethR.shape {own : Bool} {lo hi : Nat} {w : World} {row : List Value} {x : MethL} (h : MethR own lo hi w row x) : ∃ a1 c1 a2 c2 a3 c3 a4 c4, row = [.string x.name, .string x.sig, .int .i64 x.flags, .int .i64 x.stack, .int .i64 x.locals, .slice a1 x.code.length c1, .slice a2 x.hands.length c2, .slice a3 x.frames.length c3, .slice a4 x.lines.length c4] := by
  obtain ⟨p, q, s, t, rfl, hp, hq, hs, ht⟩ := h
  obtain ⟨a1, c1, rfl⟩ := hp.form
  obtain ⟨a2, c2, rfl⟩ := hq.form
  obtain ⟨a3, c3, rfl⟩ := hs.form
  obtain ⟨a4, c4, rfl⟩ := ht.form
  exact ⟨a1, c1, a2, c2, a3, c3, a4, c4, rfl⟩

set_option maxRecDepth 1000000 in
set_option maxHeartbeats 4000000 in
theorem lawMethod_calls (x : MethL) (row : List Value) (w : World) (hx : MethR false 0 w.heap.size w row x) (hu : x.upto) (hw : ∀ y ∈ x.code, y.wide) (h1 : -9223372036854775808 ≤ x.flags) (h2 : x.flags < 9223372036854775808) (he : EnvOk w) :
    Calls Tryz.prog 3 #[.agg row.toArray] w fun e w' => e = .returned (.bool true) ∧ Below w.heap.size w w' := by
  have inH : Hid (∀ W, Below w.heap.size w W → MethR false 0 w.heap.size W row x) := fun W hW => MethR.stable _ _ _ _ _ _ _ _ _ hx (Nat.le_refl _) (Nat.le_refl _) (Same.below hW)
  have szH : Hid (∀ W, Below w.heap.size w W → Calls Tryz.prog 5 #[.agg row.toArray, .int .i64 1048576] W fun e w' => SzQ 1048576 x.sz e ∧ Below W.heap.size W w') := fun W hW => szMeth_calls x hu W row false 0 w.heap.size 1048576 hW.size (inH.out W hW) (by obtain ⟨_, _, _, _, _, _, _, _, rfl⟩ := hx.shape; rfl) (by omega) (by omega)
  have toH : Hid (x.small → ∀ W, Below w.heap.size w W → Calls Tryz.prog 7 #[.agg row.toArray] W fun e w' => ∃ row' : List Value, e = .returned (.agg row'.toArray) ∧ MethR true W.heap.size w'.heap.size w' row' x ∧ Below W.heap.size W w') := fun hs W hW =>
    (toMeth_calls x w.heap.size hs W row hW.size (inH.out W hW) (by obtain ⟨_, _, _, _, _, _, _, _, rfl⟩ := hx.shape; rfl)).mono (by rintro e w' ⟨row', rfl, _, _, hr, hb⟩; exact ⟨row', rfl, hr, hb⟩)
  have spH : Hid (x.small → ∀ W r lo hi, hi ≤ W.heap.size → MethR true lo hi W r x → Calls Tryz.prog 6 #[.agg r.toArray] W fun e w' => e = .returned (.bool (methI x)) ∧ Below W.heap.size W w') := fun hs W r lo hi hh hr => by
    have := specMethod_calls x W r lo hi hh hr hs
    rwa [method_same x h1 h2] at this
  have imH : Hid (x.small → ∀ W r lo hi, hi ≤ W.heap.size → Below w.heap.size w W → MethR true lo hi W r x → Calls Tryz.prog 8 #[.agg r.toArray] W fun e w' => e = .returned (.bool (methI x)) ∧ Below W.heap.size W w') := fun hs W r lo hi hh hW hr => implMethod_calls x W r lo hi hh hr hs hw (he.kept hW)
  have eqH : Hid (x.small → ∀ W r1 r2 lo1 hi1 lo2 hi2, hi1 ≤ W.heap.size → hi2 ≤ W.heap.size → MethR true lo1 hi1 W r1 x → MethR true lo2 hi2 W r2 x → Calls Tryz.prog 9 #[.agg r1.toArray, .agg r2.toArray] W fun e w' => e = .returned (.bool true) ∧ Below W.heap.size W w') := fun hs W r1 r2 lo1 hi1 lo2 hi2 g1 g2 q1 q2 =>
    eqMeth_calls x hs W r1 r2 lo1 hi1 lo2 hi2 g1 g2 q1 q2 (by obtain ⟨_, _, _, _, _, _, _, _, rfl⟩ := q1.shape; rfl) (by obtain ⟨_, _, _, _, _, _, _, _, rfl⟩ := q2.shape; rfl)
  generalize methI x = mb at *
  obtain ⟨a1, c1, a2, c2, a3, c3, a4, c4, rfl⟩ := hx.shape
  clear hx hu hw h1 h2 he inH
  go_enter Tryz.func3, Tryz.ntmps3
  go_wp2_with fail
  obtain ⟨W0, hW0⟩ : ∃ W : World, W = w.alloc (.cells #[.string x.name, .string x.sig, .int .i64 x.flags, .int .i64 x.stack, .int .i64 x.locals, .slice a1 x.code.length c1, .slice a2 x.hands.length c2, .slice a3 x.frames.length c3, .slice a4 x.lines.length c4] 27) := ⟨_, rfl⟩
  rw [← hW0]
  have r0 : Hid (Rec1 w W0 [.string x.name, .string x.sig, .int .i64 x.flags, .int .i64 x.stack, .int .i64 x.locals, .slice a1 x.code.length c1, .slice a2 x.hands.length c2, .slice a3 x.frames.length c3, .slice a4 x.lines.length c4]) := Rec1.start hW0
  clear hW0
  refine (szH.out _ r0.out.hb).mono ?_
  rintro e w1 ⟨⟨r, rfl, hr1, hr2⟩, hb1⟩
  have r1 : Hid (Rec1 w w1 [.string x.name, .string x.sig, .int .i64 x.flags, .int .i64 x.stack, .int .i64 x.locals, .slice a1 x.code.length c1, .slice a2 x.hands.length c2, .slice a3 x.frames.length c3, .slice a4 x.lines.length c4]) := r0.out.call hb1
  clear hb1
  by_cases hbig : (1048576 : Int) < x.sz
  · obtain rfl := hr1 hbig
    go_wp2
    go_ret
    exact ⟨rfl, r1.out.hb⟩
  obtain rfl := hr2 (by omega)
  have hsm : x.small := MethL.small_of_sz (by omega)
  have toH2 := toH.out hsm
  have spH2 := spH.out hsm
  have imH2 := imH.out hsm
  have eqH2 := eqH.out hsm
  have toK : Hid (∀ W, Below w.heap.size w W → Calls Tryz.prog 7 #[.agg #[.string x.name, .string x.sig, .int .i64 x.flags, .int .i64 x.stack, .int .i64 x.locals, .slice a1 x.code.length c1, .slice a2 x.hands.length c2, .slice a3 x.frames.length c3, .slice a4 x.lines.length c4]] W fun e w' => ∃ row' : List Value, e = .returned (.agg row'.toArray) ∧ MethR true W.heap.size w'.heap.size w' row' x ∧ Below W.heap.size W w') := toH2
  have spK := (show Hid _ from spH2)
  have imK := (show Hid _ from imH2)
  have eqK := (show Hid _ from eqH2)
  have hpos : (0 : Int) ≤ 1048576 - x.sz := by omega
  clear toH spH imH eqH toH2 spH2 imH2 eqH2 hr1 hr2 szH hsm
  have y0 := r1.out.cell 0 _ rfl
  have y1 := r1.out.cell 1 _ rfl
  have y2 := r1.out.cell 2 _ rfl
  have y3 := r1.out.cell 3 _ rfl
  have y4 := r1.out.cell 4 _ rfl
  have y5 := r1.out.cell 5 _ rfl
  have y6 := r1.out.cell 6 _ rfl
  have y7 := r1.out.cell 7 _ rfl
  have y8 := r1.out.cell 8 _ rfl
  go_wp2_with fail
  refine (toK.out _ r1.out.hb).mono ?_
  rintro e w2 ⟨q2, rfl, m2, hb2⟩
  have r2 : Hid (Rec1 w w2 [.string x.name, .string x.sig, .int .i64 x.flags, .int .i64 x.stack, .int .i64 x.locals, .slice a1 x.code.length c1, .slice a2 x.hands.length c2, .slice a3 x.frames.length c3, .slice a4 x.lines.length c4]) := r1.out.call hb2
  clear y0 y1 y2 y3 y4 y5 y6 y7 y8
  go_wp2_with fail
  refine (spK.out _ q2 _ _ (Nat.le_refl _) m2).mono ?_
  rintro e w3 ⟨rfl, hb3⟩
  have r3 : Hid (Rec1 w w3 [.string x.name, .string x.sig, .int .i64 x.flags, .int .i64 x.stack, .int .i64 x.locals, .slice a1 x.code.length c1, .slice a2 x.hands.length c2, .slice a3 x.frames.length c3, .slice a4 x.lines.length c4]) := r2.out.call hb3
  clear hb2 hb3 m2
  have y0 := r3.out.cell 0 _ rfl
  have y1 := r3.out.cell 1 _ rfl
  have y2 := r3.out.cell 2 _ rfl
  have y3 := r3.out.cell 3 _ rfl
  have y4 := r3.out.cell 4 _ rfl
  have y5 := r3.out.cell 5 _ rfl
  have y6 := r3.out.cell 6 _ rfl
  have y7 := r3.out.cell 7 _ rfl
  have y8 := r3.out.cell 8 _ rfl
  go_wp2_with fail
  refine (toK.out _ r3.out.hb).mono ?_
  rintro e w4 ⟨q4, rfl, m4, hb4⟩
  have r4 : Hid (Rec1 w w4 [.string x.name, .string x.sig, .int .i64 x.flags, .int .i64 x.stack, .int .i64 x.locals, .slice a1 x.code.length c1, .slice a2 x.hands.length c2, .slice a3 x.frames.length c3, .slice a4 x.lines.length c4]) := r3.out.call hb4
  clear y0 y1 y2 y3 y4 y5 y6 y7 y8
  obtain ⟨u1, d1, u2, d2, u3, d3, u4, d4, rfl⟩ := m4.shape
  have m4H : Hid (MethR true w3.heap.size w4.heap.size w4 [.string x.name, .string x.sig, .int .i64 x.flags, .int .i64 x.stack, .int .i64 x.locals, .slice u1 x.code.length d1, .slice u2 x.hands.length d2, .slice u3 x.frames.length d3, .slice u4 x.lines.length d4] x) := m4
  clear m4 hb4
  go_wp2_with fail
  have hBV : Below w.heap.size w (w4.alloc (.cells #[.string x.name, .string x.sig, .int .i64 x.flags, .int .i64 x.stack, .int .i64 x.locals, .slice u1 x.code.length d1, .slice u2 x.hands.length d2, .slice u3 x.frames.length d3, .slice u4 x.lines.length d4] 35)) := below_on2 r4.out.hb (below_1 _ _)
  have rV : Hid (Rec1 w (w4.alloc (.cells #[.string x.name, .string x.sig, .int .i64 x.flags, .int .i64 x.stack, .int .i64 x.locals, .slice u1 x.code.length d1, .slice u2 x.hands.length d2, .slice u3 x.frames.length d3, .slice u4 x.lines.length d4] 35)) [.string x.name, .string x.sig, .int .i64 x.flags, .int .i64 x.stack, .int .i64 x.locals, .slice a1 x.code.length c1, .slice a2 x.hands.length c2, .slice a3 x.frames.length c3, .slice a4 x.lines.length c4]) := r4.out.call (below_1 _ _)
  refine (imK.out _ [.string x.name, .string x.sig, .int .i64 x.flags, .int .i64 x.stack, .int .i64 x.locals, .slice u1 x.code.length d1, .slice u2 x.hands.length d2, .slice u3 x.frames.length d3, .slice u4 x.lines.length d4] w3.heap.size w4.heap.size (by simp) hBV (MethR.stable _ _ _ _ _ _ _ _ _ m4H.out (Nat.le_refl _) (Nat.le_refl _) ((Same.below (below_1 _ _)).mono (Nat.zero_le _) (Nat.le_refl _)))).mono ?_
  rintro e w5 ⟨rfl, hb5⟩
  have r5 : Hid (Rec1 w w5 [.string x.name, .string x.sig, .int .i64 x.flags, .int .i64 x.stack, .int .i64 x.locals, .slice a1 x.code.length c1, .slice a2 x.hands.length c2, .slice a3 x.frames.length c3, .slice a4 x.lines.length c4]) := rV.out.call hb5
  have hb45 : Below w4.heap.size w4 w5 := below_on2 (below_1 _ _) hb5
  have m5K : Hid (∀ W, Below w5.heap.size w5 W → w4.heap.size ≤ W.heap.size ∧ MethR true w3.heap.size w4.heap.size W [.string x.name, .string x.sig, .int .i64 x.flags, .int .i64 x.stack, .int .i64 x.locals, .slice u1 x.code.length d1, .slice u2 x.hands.length d2, .slice u3 x.frames.length d3, .slice u4 x.lines.length d4] x) := fun W hW =>
    ⟨Nat.le_trans hb45.size hW.size, MethR.stable _ _ _ _ _ _ _ _ _ m4H.out (Nat.le_refl _) (Nat.le_refl _) ((Same.below (below_on2 hb45 hW)).mono (Nat.zero_le _) (Nat.le_refl _))⟩
  have hX5 : w5.rangeAt w4.heap.size 0 [.string x.name, .string x.sig, .int .i64 x.flags, .int .i64 x.stack, .int .i64 x.locals, .slice u1 x.code.length d1, .slice u2 x.hands.length d2, .slice u3 x.frames.length d3, .slice u4 x.lines.length d4] := rangeAt_same (Same.below hb5) (Nat.zero_le _) (by simp) (rangeAt_heap (heap_alloc_new w4 _))
  have hXlt : w4.heap.size < w5.heap.size := by have := hb5.size; simp at this; omega
  have hmk : Hid (∀ W, Below w5.heap.size w5 W → (Below w5.heap.size w5 W ∧ W.cell? ⟨w.heap.size, 0, none⟩ = some (.string x.name) ∧ W.cell? ⟨w.heap.size, 1, none⟩ = some (.string x.sig) ∧ W.cell? ⟨w.heap.size, 2, none⟩ = some (.int .i64 x.flags) ∧ W.cell? ⟨w.heap.size, 3, none⟩ = some (.int .i64 x.stack) ∧ W.cell? ⟨w.heap.size, 4, none⟩ = some (.int .i64 x.locals) ∧ W.cell? ⟨w.heap.size, 5, none⟩ = some (.slice a1 x.code.length c1) ∧ W.cell? ⟨w.heap.size, 6, none⟩ = some (.slice a2 x.hands.length c2) ∧ W.cell? ⟨w.heap.size, 7, none⟩ = some (.slice a3 x.frames.length c3) ∧ W.cell? ⟨w.heap.size, 8, none⟩ = some (.slice a4 x.lines.length c4) ∧ W.cell? ⟨w4.heap.size, 0, none⟩ = some (.string x.name) ∧ W.cell? ⟨w4.heap.size, 1, none⟩ = some (.string x.sig) ∧ W.cell? ⟨w4.heap.size, 2, none⟩ = some (.int .i64 x.flags) ∧ W.cell? ⟨w4.heap.size, 3, none⟩ = some (.int .i64 x.stack) ∧ W.cell? ⟨w4.heap.size, 4, none⟩ = some (.int .i64 x.locals) ∧ W.cell? ⟨w4.heap.size, 5, none⟩ = some (.slice u1 x.code.length d1) ∧ W.cell? ⟨w4.heap.size, 6, none⟩ = some (.slice u2 x.hands.length d2) ∧ W.cell? ⟨w4.heap.size, 7, none⟩ = some (.slice u3 x.frames.length d3) ∧ W.cell? ⟨w4.heap.size, 8, none⟩ = some (.slice u4 x.lines.length d4))) := fun W hW => by
    have rW := r5.out.call hW
    have kp := rangeAt_same (Same.below hW) (Nat.zero_le _) hXlt hX5
    simp only [World.rangeAt, Nat.zero_add] at kp
    exact ⟨hW, rW.cell 0 _ rfl, rW.cell 1 _ rfl, rW.cell 2 _ rfl, rW.cell 3 _ rfl, rW.cell 4 _ rfl, rW.cell 5 _ rfl, rW.cell 6 _ rfl, rW.cell 7 _ rfl, rW.cell 8 _ rfl, kp 0 _ rfl, kp 1 _ rfl, kp 2 _ rfl, kp 3 _ rfl, kp 4 _ rfl, kp 5 _ rfl, kp 6 _ rfl, kp 7 _ rfl, kp 8 _ rfl⟩
  have eqC : Hid (∀ (W : World) (lo : Nat) (q : List Value) (hi : Nat), Below w5.heap.size w5 W → MethR true lo W.heap.size W q x → Calls Tryz.prog 9 #[.agg #[.string x.name, .string x.sig, .int .i64 x.flags, .int .i64 x.stack, .int .i64 x.locals, .slice u1 x.code.length d1, .slice u2 x.hands.length d2, .slice u3 x.frames.length d3, .slice u4 x.lines.length d4], .agg q.toArray] W fun e w' => e = .returned (.bool true) ∧ Below W.heap.size W w') := fun W lo q hi hW hq => eqK.out W [.string x.name, .string x.sig, .int .i64 x.flags, .int .i64 x.stack, .int .i64 x.locals, .slice u1 x.code.length d1, .slice u2 x.hands.length d2, .slice u3 x.frames.length d3, .slice u4 x.lines.length d4] q w3.heap.size w4.heap.size lo W.heap.size (m5K.out W hW).1 (Nat.le_refl _) (m5K.out W hW).2 hq
  have hxx : (mb != mb) = false := by simp
  obtain ⟨X, hXe⟩ : ∃ X, X = w4.heap.size := ⟨_, rfl⟩
  have hS0 := hmk.out w5 (Below.refl _ _)
  have hB5 : Hid (Below w.heap.size w w5) := r5.out.hb
  clear hBV rV hb5 hb45 hX5 hXlt r0 r1 r2 r3 r4 r5 spK imK hXe
  go_wp2
  go_region_held3 (fun W => Below w5.heap.size w5 W ∧ W.cell? ⟨w.heap.size, 0, none⟩ = some (.string x.name) ∧ W.cell? ⟨w.heap.size, 1, none⟩ = some (.string x.sig) ∧ W.cell? ⟨w.heap.size, 2, none⟩ = some (.int .i64 x.flags) ∧ W.cell? ⟨w.heap.size, 3, none⟩ = some (.int .i64 x.stack) ∧ W.cell? ⟨w.heap.size, 4, none⟩ = some (.int .i64 x.locals) ∧ W.cell? ⟨w.heap.size, 5, none⟩ = some (.slice a1 x.code.length c1) ∧ W.cell? ⟨w.heap.size, 6, none⟩ = some (.slice a2 x.hands.length c2) ∧ W.cell? ⟨w.heap.size, 7, none⟩ = some (.slice a3 x.frames.length c3) ∧ W.cell? ⟨w.heap.size, 8, none⟩ = some (.slice a4 x.lines.length c4) ∧ W.cell? ⟨w4.heap.size, 0, none⟩ = some (.string x.name) ∧ W.cell? ⟨w4.heap.size, 1, none⟩ = some (.string x.sig) ∧ W.cell? ⟨w4.heap.size, 2, none⟩ = some (.int .i64 x.flags) ∧ W.cell? ⟨w4.heap.size, 3, none⟩ = some (.int .i64 x.stack) ∧ W.cell? ⟨w4.heap.size, 4, none⟩ = some (.int .i64 x.locals) ∧ W.cell? ⟨w4.heap.size, 5, none⟩ = some (.slice u1 x.code.length d1) ∧ W.cell? ⟨w4.heap.size, 6, none⟩ = some (.slice u2 x.hands.length d2) ∧ W.cell? ⟨w4.heap.size, 7, none⟩ = some (.slice u3 x.frames.length d3) ∧ W.cell? ⟨w4.heap.size, 8, none⟩ = some (.slice u4 x.lines.length d4)) (first | assumption | exact hmk.out _ (Below.drew (And.left (by assumption))) | exact hmk.out _ (below_on2 (And.left (by assumption)) (by assumption))) (first | (go_at_call 7; refine (toK.out _ (below_on2 hB5.out (And.left (by assumption)))).mono ?_; rintro e7 w7 ⟨q7, rfl, m7, hb7⟩) | (go_at_call 9; refine (eqC.out w7 _ q7 0 (by first | assumption | exact And.left (by assumption) | exact below_on2 (And.left (by assumption)) (by assumption)) m7).mono ?_; rintro e9 w9 ⟨rfl, hb9⟩))
  go_wp2
  go_ret
  exact ⟨rfl, by first | exact below_on2 hB5.out (And.left (by assumption)) | exact below_on2 (below_on2 (below_on2 hB5.out (And.left (by assumption))) hb7) hb9 | trace_state⟩
end Go.Proofs.YtkkfkbcdcdifdaaGreatDoor
