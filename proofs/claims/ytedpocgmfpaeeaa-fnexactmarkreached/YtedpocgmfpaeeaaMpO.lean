/- A heap of the marker that came in, opened. -/
import Derived.Test.YtedpocgmfpaeeaaGpO
import Derived.Test.YtedpocgmfpaeeaaMsG
namespace Go.Proofs.Ytedpocgmfpaeeaa
set_option linter.unusedVariables false
open Go.ChangeShapes Go.WideShapes Go.ChangeAt Go.RowKit

theorem cellsM : Try.prog.cellsOf 37 = 1 := by kernel_rfl
set_option maxRecDepth 1000000 in
theorem open_mobE {H : Type} {enc : TypeId × Value → H} {W : World} {n : Nat} {cs : List Value} {z : DataW H × List MemPlace} (hl : cs.length = 3) (h : DataW.trod enc Try.prog W 0 (fun _ => true) true n 86 cs = some z) (hlt : ∀ p ∈ z.2, p.block < W.heap.size) :
    ∃ x : MobL, MobR false 0 W.heap.size W cs x ∧ x.upto ∧ Rng x.id ∧ ∀ z ∈ x.flds, Rng z := by
  obtain ⟨c0, c1, c2, rfl⟩ := list3L hl
  obtain ⟨xs, n', _, hx, _, hlen, hfld⟩ := DataW.trod_struct Try.underlying86 h
  obtain ⟨y0, y1, y2, rfl⟩ := list3L hlen
  have g0 : DataW.trod enc Try.prog W 0 (fun _ => true) true n' 2 [c0] = some y0 := by simpa [cellsN.1, cellsN.2.1, cellsN.2.2.1, cellsN.2.2.2, cellsM] using hfld 0 _ rfl
  have g1 : DataW.trod enc Try.prog W 0 (fun _ => true) true n' 23 [c1] = some y1 := by simpa [cellsN.1, cellsN.2.1, cellsN.2.2.1, cellsN.2.2.2, cellsM] using hfld 1 _ rfl
  have g2 : DataW.trod enc Try.prog W 0 (fun _ => true) true n' 2 [c2] = some y2 := by simpa [cellsN.1, cellsN.2.1, cellsN.2.2.1, cellsN.2.2.2, cellsM] using hfld 2 _ rfl
  obtain ⟨i0, e0, -, w0⟩ := DataW.trod_int Try.underlying2 g0
  simp at e0
  subst e0
  obtain ⟨l1, L1, n1, q1⟩ := open_list IntR 1 Rng (by omega) Try.underlying23 (by kernel_rfl) (fun n cs z hl h hlt => open_intE hl h hlt) g1 (fun p hp => hlt p (by rw [hx]; simp [hp]))
  obtain ⟨i2, e2, -, w2⟩ := DataW.trod_int Try.underlying2 g2
  simp at e2
  subst e2
  exact ⟨⟨i0, l1, i2⟩, ⟨c1, rfl, L1⟩, n1, rng_wf w0, q1⟩
set_option maxRecDepth 1000000 in
theorem open_mhpE {H : Type} {enc : TypeId × Value → H} {W : World} {n : Nat} {cs : List Value} {z : DataW H × List MemPlace} (hl : cs.length = 4) (h : DataW.trod enc Try.prog W 0 (fun _ => true) true n 39 cs = some z) (hlt : ∀ p ∈ z.2, p.block < W.heap.size) :
    ∃ x : MhpL, MhpR false 0 W.heap.size W cs x ∧ x.upto ∧ x.rng := by
  obtain ⟨c0, c1, c2, c3, rfl⟩ := list4L hl
  obtain ⟨xs, n', _, hx, _, hlen, hfld⟩ := DataW.trod_struct Try.underlying39 h
  obtain ⟨y0, y1, y2, y3, rfl⟩ := list4L hlen
  have g0 : DataW.trod enc Try.prog W 0 (fun _ => true) true n' 37 [c0] = some y0 := by simpa [cellsN.1, cellsN.2.1, cellsN.2.2.1, cellsN.2.2.2, cellsM] using hfld 0 _ rfl
  have g1 : DataW.trod enc Try.prog W 0 (fun _ => true) true n' 23 [c1] = some y1 := by simpa [cellsN.1, cellsN.2.1, cellsN.2.2.1, cellsN.2.2.2, cellsM] using hfld 1 _ rfl
  have g2 : DataW.trod enc Try.prog W 0 (fun _ => true) true n' 4 [c2] = some y2 := by simpa [cellsN.1, cellsN.2.1, cellsN.2.2.1, cellsN.2.2.2, cellsM] using hfld 2 _ rfl
  have g3 : DataW.trod enc Try.prog W 0 (fun _ => true) true n' 23 [c3] = some y3 := by simpa [cellsN.1, cellsN.2.1, cellsN.2.2.1, cellsN.2.2.2, cellsM] using hfld 3 _ rfl
  obtain ⟨l0, L0, n0, q0⟩ := open_list MobR 3 (fun x => x.upto ∧ Rng x.id ∧ ∀ z ∈ x.flds, Rng z) (by omega) Try.underlying37 (by kernel_rfl) (fun n cs z hl h hlt => open_mobE hl h hlt) g0 (fun p hp => hlt p (by rw [hx]; simp [hp]))
  obtain ⟨l1, L1, n1, q1⟩ := open_list IntR 1 Rng (by omega) Try.underlying23 (by kernel_rfl) (fun n cs z hl h hlt => open_intE hl h hlt) g1 (fun p hp => hlt p (by rw [hx]; simp [hp]))
  obtain ⟨i2, e2, -⟩ := DataW.trod_bool Try.underlying4 g2
  simp at e2
  subst e2
  obtain ⟨l3, L3, n3, q3⟩ := open_list IntR 1 Rng (by omega) Try.underlying23 (by kernel_rfl) (fun n cs z hl h hlt => open_intE hl h hlt) g3 (fun p hp => hlt p (by rw [hx]; simp [hp]))
  exact ⟨⟨l0, l1, i2, l3⟩, ⟨c0, c1, c3, rfl, L0, L1, L3⟩, ⟨n0, fun y hy => (q0 y hy).1, n1, n3⟩, ⟨fun o ho => (q0 o ho).2, q1⟩⟩
theorem markOf_len (x : MhpL) : (markOf x).length ≤ 1048576 := by
  unfold markOf
  split
  · simp
  · have := liveL_len (x.objs.map gobOf) x.roots
    rw [List.length_map] at this
    omega
theorem markReached_law (x : MhpL) (row : List Value) (w : World) (h0 : MhpR false 0 w.heap.size w row x) (hu : x.upto ∧ x.rng) : Calls Try.prog 4 #[.agg row.toArray] w fun e w' => e = .returned (.bool true) ∧ Below w.heap.size w w' :=
  lawMarkReached_calls x (markOf x) row w h0 hu.1 (markOf_len x) (fun W row lo hi h1 h2 h3 => specMark_calls x W row lo hi h1 h2 h3) (fun W row lo hi h1 h2 h3 => implMark_calls x W row lo hi h1 h2 h3 hu.2)
end Go.Proofs.Ytedpocgmfpaeeaa
