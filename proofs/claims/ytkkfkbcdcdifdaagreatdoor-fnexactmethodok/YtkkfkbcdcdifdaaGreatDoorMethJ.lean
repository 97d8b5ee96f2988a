/- A method that came in, opened. -/
import Derived.Test.YtkkfkbcdcdifdaaGreatDoorMethI
import Derived.Test.YtkkfkbcdcdifdaaGreatDoorDeepG
import Derived.ChangeArms
import Derived.ChangeFn
import Derived.WalkKit
import Derived.ProofKit
import Derived.ShutString
namespace Go.Proofs.YtkkfkbcdcdifdaaGreatDoor
set_option linter.unusedVariables false
open Go.ChangeShapes Go.WideShapes Go.ChangeAt Go.RowKit

theorem list1L {α : Type} {cs : List α} (h : cs.length = 1) : ∃ c0, cs = [c0] := by
  match cs, h with
  | [c0], _ => exact ⟨c0, rfl⟩
theorem list2L {α : Type} {cs : List α} (h : cs.length = 2) : ∃ c0 c1, cs = [c0, c1] := by
  match cs, h with
  | [c0, c1], _ => exact ⟨c0, c1, rfl⟩
theorem list3L {α : Type} {cs : List α} (h : cs.length = 3) : ∃ c0 c1 c2, cs = [c0, c1, c2] := by
  match cs, h with
  | [c0, c1, c2], _ => exact ⟨c0, c1, c2, rfl⟩
theorem list4L {α : Type} {cs : List α} (h : cs.length = 4) : ∃ c0 c1 c2 c3, cs = [c0, c1, c2, c3] := by
  match cs, h with
  | [c0, c1, c2, c3], _ => exact ⟨c0, c1, c2, c3, rfl⟩
theorem list9L {α : Type} {cs : List α} (h : cs.length = 9) : ∃ c0 c1 c2 c3 c4 c5 c6 c7 c8, cs = [c0, c1, c2, c3, c4, c5, c6, c7, c8] := by
  match cs, h with
  | [c0, c1, c2, c3, c4, c5, c6, c7, c8], _ => exact ⟨c0, c1, c2, c3, c4, c5, c6, c7, c8, rfl⟩
theorem cellsN2 : Tryz.prog.cellsOf 2 = 1 := by kernel_rfl
theorem cellsN9 : Tryz.prog.cellsOf 9 = 1 := by kernel_rfl
theorem cellsN22 : Tryz.prog.cellsOf 22 = 1 := by kernel_rfl
theorem cellsN23 : Tryz.prog.cellsOf 23 = 1 := by kernel_rfl
theorem cellsN24 : Tryz.prog.cellsOf 24 = 1 := by kernel_rfl
theorem cellsN25 : Tryz.prog.cellsOf 25 = 1 := by kernel_rfl
theorem cellsN39 : Tryz.prog.cellsOf 39 = 1 := by kernel_rfl
theorem cellsN81 : Tryz.prog.cellsOf 81 = 1 := by kernel_rfl

theorem open_intE {H : Type} {enc : TypeId × Value → H} {W : World} {n : Nat} {cs : List Value} {z : DataW H × List MemPlace} (hl : cs.length = 1) (h : DataW.trod enc Tryz.prog W 0 (fun _ => true) true n 2 cs = some z) : ∃ x : Int, IntR false 0 W.heap.size W cs x ∧ True := by
  obtain ⟨c0, rfl⟩ := list1L hl
  obtain ⟨o, e0, -, -⟩ := DataW.trod_int Tryz.underlying2 h
  simp at e0
  subst e0
  exact ⟨o, rfl, trivial⟩
theorem open_strE {H : Type} {enc : TypeId × Value → H} {W : World} {n : Nat} {cs : List Value} {z : DataW H × List MemPlace} (hl : cs.length = 1) (h : DataW.trod enc Tryz.prog W 0 (fun _ => true) true n 9 cs = some z) : ∃ x : ByteArray, StrR false 0 W.heap.size W cs x ∧ x.size ≤ 9223372036854775807 := by
  obtain ⟨c0, rfl⟩ := list1L hl
  obtain ⟨o, e0, -, hT⟩ := DataW.trod_string Tryz.underlying9 h
  simp at e0
  subst e0
  unfold maxLen at hT
  exact ⟨o, rfl, by omega⟩

set_option maxRecDepth 1000000 in
theorem open_insE {H : Type} {enc : TypeId × Value → H} {W : World} {n : Nat} {cs : List Value} {z : DataW H × List MemPlace} (hl : cs.length = 9) (h : DataW.trod enc Tryz.prog W 0 (fun _ => true) true n 83 cs = some z) (hlt : ∀ p ∈ z.2, p.block < W.heap.size) :
    ∃ x : InsL, InsR false 0 W.heap.size W cs x ∧ (x.upto ∧ x.wide) := by
  obtain ⟨c0, c1, c2, c3, c4, c5, c6, c7, c8, rfl⟩ := list9L hl
  obtain ⟨xs, n', _, hx, _, hlen, hfld⟩ := DataW.trod_struct Tryz.underlying83 h
  obtain ⟨y0, y1, y2, y3, y4, y5, y6, y7, y8, rfl⟩ := list9L hlen
  have g0 : DataW.trod enc Tryz.prog W 0 (fun _ => true) true n' 2 [c0] = some y0 := by simpa [cellsN2] using hfld 0 _ rfl
  have g1 : DataW.trod enc Tryz.prog W 0 (fun _ => true) true n' 2 [c1] = some y1 := by simpa [cellsN2] using hfld 1 _ rfl
  have g2 : DataW.trod enc Tryz.prog W 0 (fun _ => true) true n' 2 [c2] = some y2 := by simpa [cellsN2] using hfld 2 _ rfl
  have g3 : DataW.trod enc Tryz.prog W 0 (fun _ => true) true n' 2 [c3] = some y3 := by simpa [cellsN2] using hfld 3 _ rfl
  have g4 : DataW.trod enc Tryz.prog W 0 (fun _ => true) true n' 9 [c4] = some y4 := by simpa [cellsN2, cellsN9] using hfld 4 _ rfl
  have g5 : DataW.trod enc Tryz.prog W 0 (fun _ => true) true n' 9 [c5] = some y5 := by simpa [cellsN2, cellsN9] using hfld 5 _ rfl
  have g6 : DataW.trod enc Tryz.prog W 0 (fun _ => true) true n' 9 [c6] = some y6 := by simpa [cellsN2, cellsN9] using hfld 6 _ rfl
  have g7 : DataW.trod enc Tryz.prog W 0 (fun _ => true) true n' 9 [c7] = some y7 := by simpa [cellsN2, cellsN9] using hfld 7 _ rfl
  have g8 : DataW.trod enc Tryz.prog W 0 (fun _ => true) true n' 81 [c8] = some y8 := by simpa [cellsN2, cellsN9, cellsN81] using hfld 8 _ rfl
  obtain ⟨i0, e0, -, w0⟩ := DataW.trod_int Tryz.underlying2 g0
  simp at e0
  subst e0
  have b0 := bounds_i64 w0
  obtain ⟨i1, e1, -, w1⟩ := DataW.trod_int Tryz.underlying2 g1
  simp at e1
  subst e1
  have b1 := bounds_i64 w1
  obtain ⟨i2, e2, -, w2⟩ := DataW.trod_int Tryz.underlying2 g2
  simp at e2
  subst e2
  have b2 := bounds_i64 w2
  obtain ⟨i3, e3, -, w3⟩ := DataW.trod_int Tryz.underlying2 g3
  simp at e3
  subst e3
  have b3 := bounds_i64 w3
  obtain ⟨s4, e4, -, t4⟩ := DataW.trod_string Tryz.underlying9 g4
  simp at e4
  subst e4
  unfold maxLen at t4
  obtain ⟨s5, e5, -, t5⟩ := DataW.trod_string Tryz.underlying9 g5
  simp at e5
  subst e5
  unfold maxLen at t5
  obtain ⟨s6, e6, -, t6⟩ := DataW.trod_string Tryz.underlying9 g6
  simp at e6
  subst e6
  unfold maxLen at t6
  obtain ⟨s7, e7, -, t7⟩ := DataW.trod_string Tryz.underlying9 g7
  simp at e7
  subst e7
  unfold maxLen at t7
  obtain ⟨l8, L8, n8, q8⟩ := open_list IntR 1 (fun _ => True) (by omega) Tryz.underlying81 (by kernel_rfl) (fun n cs z hl h hlt => open_intE hl h) g8 (fun p hp => hlt p (by rw [hx]; simp [hp]))
  exact ⟨⟨i0, i1, i2, i3, s4, s5, s6, s7, l8⟩, ⟨c8, rfl, L8⟩, ⟨by show s4.size ≤ _; omega, by show s5.size ≤ _; omega, by show s6.size ≤ _; omega, by show s7.size ≤ _; omega, n8⟩, by show _ ≤ i2; omega, by show i2 < _; omega⟩

set_option maxRecDepth 1000000 in
theorem open_handE {H : Type} {enc : TypeId × Value → H} {W : World} {n : Nat} {cs : List Value} {z : DataW H × List MemPlace} (hl : cs.length = 4) (h : DataW.trod enc Tryz.prog W 0 (fun _ => true) true n 86 cs = some z) (hlt : ∀ p ∈ z.2, p.block < W.heap.size) :
    ∃ x : HandL, HandR false 0 W.heap.size W cs x ∧ x.upto := by
  obtain ⟨c0, c1, c2, c3, rfl⟩ := list4L hl
  obtain ⟨xs, n', _, hx, _, hlen, hfld⟩ := DataW.trod_struct Tryz.underlying86 h
  obtain ⟨y0, y1, y2, y3, rfl⟩ := list4L hlen
  have g0 : DataW.trod enc Tryz.prog W 0 (fun _ => true) true n' 2 [c0] = some y0 := by simpa [cellsN2] using hfld 0 _ rfl
  have g1 : DataW.trod enc Tryz.prog W 0 (fun _ => true) true n' 2 [c1] = some y1 := by simpa [cellsN2] using hfld 1 _ rfl
  have g2 : DataW.trod enc Tryz.prog W 0 (fun _ => true) true n' 2 [c2] = some y2 := by simpa [cellsN2] using hfld 2 _ rfl
  have g3 : DataW.trod enc Tryz.prog W 0 (fun _ => true) true n' 9 [c3] = some y3 := by simpa [cellsN2, cellsN9] using hfld 3 _ rfl
  obtain ⟨i0, e0, -, w0⟩ := DataW.trod_int Tryz.underlying2 g0
  simp at e0
  subst e0
  have b0 := bounds_i64 w0
  obtain ⟨i1, e1, -, w1⟩ := DataW.trod_int Tryz.underlying2 g1
  simp at e1
  subst e1
  have b1 := bounds_i64 w1
  obtain ⟨i2, e2, -, w2⟩ := DataW.trod_int Tryz.underlying2 g2
  simp at e2
  subst e2
  have b2 := bounds_i64 w2
  obtain ⟨s3, e3, -, t3⟩ := DataW.trod_string Tryz.underlying9 g3
  simp at e3
  subst e3
  unfold maxLen at t3
  exact ⟨⟨i0, i1, i2, s3⟩, rfl, (by show s3.size ≤ _; omega)⟩

set_option maxRecDepth 1000000 in
theorem open_frameE {H : Type} {enc : TypeId × Value → H} {W : World} {n : Nat} {cs : List Value} {z : DataW H × List MemPlace} (hl : cs.length = 3) (h : DataW.trod enc Tryz.prog W 0 (fun _ => true) true n 89 cs = some z) (hlt : ∀ p ∈ z.2, p.block < W.heap.size) :
    ∃ x : FrameL, FrameR false 0 W.heap.size W cs x ∧ x.upto := by
  obtain ⟨c0, c1, c2, rfl⟩ := list3L hl
  obtain ⟨xs, n', _, hx, _, hlen, hfld⟩ := DataW.trod_struct Tryz.underlying89 h
  obtain ⟨y0, y1, y2, rfl⟩ := list3L hlen
  have g0 : DataW.trod enc Tryz.prog W 0 (fun _ => true) true n' 2 [c0] = some y0 := by simpa [cellsN2] using hfld 0 _ rfl
  have g1 : DataW.trod enc Tryz.prog W 0 (fun _ => true) true n' 39 [c1] = some y1 := by simpa [cellsN2, cellsN39] using hfld 1 _ rfl
  have g2 : DataW.trod enc Tryz.prog W 0 (fun _ => true) true n' 39 [c2] = some y2 := by simpa [cellsN2, cellsN39] using hfld 2 _ rfl
  obtain ⟨i0, e0, -, w0⟩ := DataW.trod_int Tryz.underlying2 g0
  simp at e0
  subst e0
  have b0 := bounds_i64 w0
  obtain ⟨l1, L1, n1, q1⟩ := open_list StrR 1 (fun s => s.size ≤ 9223372036854775807) (by omega) Tryz.underlying39 (by kernel_rfl) (fun n cs z hl h hlt => open_strE hl h) g1 (fun p hp => hlt p (by rw [hx]; simp [hp]))
  obtain ⟨l2, L2, n2, q2⟩ := open_list StrR 1 (fun s => s.size ≤ 9223372036854775807) (by omega) Tryz.underlying39 (by kernel_rfl) (fun n cs z hl h hlt => open_strE hl h) g2 (fun p hp => hlt p (by rw [hx]; simp [hp]))
  exact ⟨⟨i0, l1, l2⟩, ⟨c1, c2, rfl, L1, L2⟩, n1, n2, q1, q2⟩

set_option maxRecDepth 1000000 in
theorem open_lineE {H : Type} {enc : TypeId × Value → H} {W : World} {n : Nat} {cs : List Value} {z : DataW H × List MemPlace} (hl : cs.length = 2) (h : DataW.trod enc Tryz.prog W 0 (fun _ => true) true n 104 cs = some z) (hlt : ∀ p ∈ z.2, p.block < W.heap.size) :
    ∃ x : LineL, LineR false 0 W.heap.size W cs x ∧ True := by
  obtain ⟨c0, c1, rfl⟩ := list2L hl
  obtain ⟨xs, n', _, hx, _, hlen, hfld⟩ := DataW.trod_struct Tryz.underlying104 h
  obtain ⟨y0, y1, rfl⟩ := list2L hlen
  have g0 : DataW.trod enc Tryz.prog W 0 (fun _ => true) true n' 2 [c0] = some y0 := by simpa [cellsN2] using hfld 0 _ rfl
  have g1 : DataW.trod enc Tryz.prog W 0 (fun _ => true) true n' 2 [c1] = some y1 := by simpa [cellsN2] using hfld 1 _ rfl
  obtain ⟨i0, e0, -, w0⟩ := DataW.trod_int Tryz.underlying2 g0
  simp at e0
  subst e0
  have b0 := bounds_i64 w0
  obtain ⟨i1, e1, -, w1⟩ := DataW.trod_int Tryz.underlying2 g1
  simp at e1
  subst e1
  have b1 := bounds_i64 w1
  exact ⟨⟨i0, i1⟩, rfl, trivial⟩

set_option maxRecDepth 1000000 in
theorem open_methE {H : Type} {enc : TypeId × Value → H} {W : World} {n : Nat} {cs : List Value} {z : DataW H × List MemPlace} (hl : cs.length = 9) (h : DataW.trod enc Tryz.prog W 0 (fun _ => true) true n 27 cs = some z) (hlt : ∀ p ∈ z.2, p.block < W.heap.size) :
    ∃ x : MethL, MethR false 0 W.heap.size W cs x ∧ (x.upto ∧ (∀ y ∈ x.code, y.wide) ∧ -9223372036854775808 ≤ x.flags ∧ x.flags < 9223372036854775808) := by
  obtain ⟨c0, c1, c2, c3, c4, c5, c6, c7, c8, rfl⟩ := list9L hl
  obtain ⟨xs, n', _, hx, _, hlen, hfld⟩ := DataW.trod_struct Tryz.underlying27 h
  obtain ⟨y0, y1, y2, y3, y4, y5, y6, y7, y8, rfl⟩ := list9L hlen
  have g0 : DataW.trod enc Tryz.prog W 0 (fun _ => true) true n' 9 [c0] = some y0 := by simpa [cellsN9] using hfld 0 _ rfl
  have g1 : DataW.trod enc Tryz.prog W 0 (fun _ => true) true n' 9 [c1] = some y1 := by simpa [cellsN9] using hfld 1 _ rfl
  have g2 : DataW.trod enc Tryz.prog W 0 (fun _ => true) true n' 2 [c2] = some y2 := by simpa [cellsN2, cellsN9] using hfld 2 _ rfl
  have g3 : DataW.trod enc Tryz.prog W 0 (fun _ => true) true n' 2 [c3] = some y3 := by simpa [cellsN2, cellsN9] using hfld 3 _ rfl
  have g4 : DataW.trod enc Tryz.prog W 0 (fun _ => true) true n' 2 [c4] = some y4 := by simpa [cellsN2, cellsN9] using hfld 4 _ rfl
  have g5 : DataW.trod enc Tryz.prog W 0 (fun _ => true) true n' 22 [c5] = some y5 := by simpa [cellsN2, cellsN9, cellsN22] using hfld 5 _ rfl
  have g6 : DataW.trod enc Tryz.prog W 0 (fun _ => true) true n' 23 [c6] = some y6 := by simpa [cellsN2, cellsN9, cellsN22, cellsN23] using hfld 6 _ rfl
  have g7 : DataW.trod enc Tryz.prog W 0 (fun _ => true) true n' 24 [c7] = some y7 := by simpa [cellsN2, cellsN9, cellsN22, cellsN23, cellsN24] using hfld 7 _ rfl
  have g8 : DataW.trod enc Tryz.prog W 0 (fun _ => true) true n' 25 [c8] = some y8 := by simpa [cellsN2, cellsN9, cellsN22, cellsN23, cellsN24, cellsN25] using hfld 8 _ rfl
  obtain ⟨s0, e0, -, t0⟩ := DataW.trod_string Tryz.underlying9 g0
  simp at e0
  subst e0
  unfold maxLen at t0
  obtain ⟨s1, e1, -, t1⟩ := DataW.trod_string Tryz.underlying9 g1
  simp at e1
  subst e1
  unfold maxLen at t1
  obtain ⟨i2, e2, -, w2⟩ := DataW.trod_int Tryz.underlying2 g2
  simp at e2
  subst e2
  have b2 := bounds_i64 w2
  obtain ⟨i3, e3, -, w3⟩ := DataW.trod_int Tryz.underlying2 g3
  simp at e3
  subst e3
  have b3 := bounds_i64 w3
  obtain ⟨i4, e4, -, w4⟩ := DataW.trod_int Tryz.underlying2 g4
  simp at e4
  subst e4
  have b4 := bounds_i64 w4
  obtain ⟨l5, L5, n5, q5⟩ := open_list InsR 9 (fun x => x.upto ∧ x.wide) (by omega) Tryz.underlying22 (by kernel_rfl) (fun n cs z hl h hlt => open_insE hl h hlt) g5 (fun p hp => hlt p (by rw [hx]; simp [hp]))
  obtain ⟨l6, L6, n6, q6⟩ := open_list HandR 4 (fun x => x.upto) (by omega) Tryz.underlying23 (by kernel_rfl) (fun n cs z hl h hlt => open_handE hl h hlt) g6 (fun p hp => hlt p (by rw [hx]; simp [hp]))
  obtain ⟨l7, L7, n7, q7⟩ := open_list FrameR 3 (fun x => x.upto) (by omega) Tryz.underlying24 (by kernel_rfl) (fun n cs z hl h hlt => open_frameE hl h hlt) g7 (fun p hp => hlt p (by rw [hx]; simp [hp]))
  obtain ⟨l8, L8, n8, q8⟩ := open_list LineR 2 (fun _ => True) (by omega) Tryz.underlying25 (by kernel_rfl) (fun n cs z hl h hlt => open_lineE hl h hlt) g8 (fun p hp => hlt p (by rw [hx]; simp [hp]))
  exact ⟨⟨s0, s1, i2, i3, i4, l5, l6, l7, l8⟩, ⟨c5, c6, c7, c8, rfl, L5, L6, L7, L8⟩, ⟨by show s0.size ≤ _; omega, by show s1.size ≤ _; omega, ⟨n5, fun y hy => (q5 y hy).1⟩, ⟨n6, q6⟩, ⟨n7, q7⟩, n8⟩, fun y hy => (q5 y hy).2, by show _ ≤ i2; omega, by show i2 < _; omega⟩
end Go.Proofs.YtkkfkbcdcdifdaaGreatDoor
