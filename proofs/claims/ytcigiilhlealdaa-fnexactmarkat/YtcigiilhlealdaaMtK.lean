/- Ops that came in, opened. -/
import Derived.Test.YtcigiilhlealdaaMtE
import Derived.Deep.Slices
import Derived.OpenShut
import Derived.ChangeArms
import Derived.ChangeFn
import Derived.WalkKit
import Derived.ProofKit
import Derived.ShutString
namespace Go.Proofs.Ytcigiilhlealdaa
set_option linter.unusedVariables false
open Go.ChangeShapes Go.WideShapes Go.ChangeAt Go.RowKit

theorem open_list {α : Type} (R : Rd α) (k : Nat) (Q : α → Prop) (hk1 : 0 < k) {H : Type} {enc : TypeId × Value → H} {W : World} {t e : TypeId} {n : Nat} {v : Value} {y : DataW H × List MemPlace}
    (ht : Try.prog.underlying t = some (.slice e)) (hk : Try.prog.cellsOf e = k)
    (hel : ∀ (n : Nat) (cs : List Value) (z : DataW H × List MemPlace), cs.length = k → DataW.trod enc Try.prog W 0 (fun _ => true) true n e cs = some z → (∀ p ∈ z.2, p.block < W.heap.size) → ∃ x, R false 0 W.heap.size W cs x ∧ Q x)
    (h : DataW.trod enc Try.prog W 0 (fun _ => true) true n t [v] = some y) (hlt : ∀ p ∈ y.2, p.block < W.heap.size) :
    ∃ xs : List α, ListAt R k false 0 W.heap.size W v xs ∧ xs.length ≤ 9223372036854775807 ∧ ∀ x ∈ xs, Q x := by
  rcases Go.Deep.open_slice ht h with ⟨hcs, hx⟩ | ⟨a, len, cap, m, n', D, Pl, hcs, _, hl, hm, hmm, hx, hall⟩
  · simp at hcs
    exact ⟨[], .inl ⟨rfl, rfl, _, _, hcs⟩, by simp, by simp⟩
  · simp at hcs
    subst hcs
    simp only [if_true] at hmm
    have hlm : len ≤ m := by omega
    rw [hk] at hall hx
    have each : ∀ i, i < len → ∃ x : α, ∃ cs : List Value, cs.length = k ∧ (∀ j u, cs[j]? = some u → W.cell? ((a.add (i * k)).add j) = some u) ∧ R false 0 W.heap.size W cs x ∧ Q x := fun i hi => by
      obtain ⟨cs, hc, htr⟩ := hall i (by omega)
      obtain ⟨_, hlen, hcell0⟩ := World.cells?_some hc
      have hcell : ∀ j u, cs[j]? = some u → W.cell? ((a.add (i * k)).add j) = some u := fun j u hu => by
        rw [hcell0 j (by have := (List.getElem?_eq_some_iff.1 hu).1; omega)]; exact hu
      obtain ⟨x, hr, hq⟩ := hel n' cs _ hlen htr (fun p hp => hlt p (by
        rw [hx]
        exact List.mem_append_right _ (List.mem_flatMap.2 ⟨i, List.mem_range.2 (by omega), hp⟩)))
      exact ⟨x, cs, hlen, hcell, hr, hq⟩
    by_cases h0 : len = 0
    · subst h0
      exact ⟨[], .inl ⟨rfl, rfl, _, _, rfl⟩, by simp, by simp⟩
    obtain ⟨b, off, spot⟩ := a
    have hspot : spot = none := by
      obtain ⟨x, cs, hlen, hcell, _⟩ := each 0 (by omega)
      have := hcell 0 cs[0] (by simp)
      simpa [Addr.add] using World.cell?_spot this
    subst hspot
    obtain ⟨f, hf⟩ : ∃ f : Nat → α, ∀ i, i < len → ∃ cs : List Value, cs.length = k ∧ (∀ j u, cs[j]? = some u → W.cell? (((⟨b, off, none⟩ : Addr).add (i * k)).add j) = some u) ∧ R false 0 W.heap.size W cs (f i) ∧ Q (f i) := by
      obtain ⟨x0, _⟩ := each 0 (by omega)
      refine ⟨fun i => if hi : i < len then (each i hi).choose else x0, fun i hi => ?_⟩
      simp only [hi, dif_pos]
      exact (each i hi).choose_spec
    have hb : b < W.heap.size := by
      obtain ⟨cs, hlen, hcell, _⟩ := hf 0 (by omega)
      have := World.block_lt_of_cell? W _ (hcell 0 cs[0] (by simp))
      simpa [Addr.add] using this
    refine ⟨(List.range len).map f, .inr ⟨b, off, cap, by simp, Nat.zero_le _, hb, (fun h => by cases h), fun j hj => ?_⟩, ?_, fun x hx => ?_⟩
    · have hj' : j < len := by simpa using hj
      obtain ⟨cs, hlen, hcell, hr, _⟩ := hf j hj'
      refine ⟨cs, hlen, fun i u hu => ?_, by simpa using hr, fun h => by cases h⟩
      have := hcell i u hu
      rwa [Addr.add_mid, Addr.add_mid] at this
    · simp; unfold maxLen at hm; omega
    · obtain ⟨i, hi, rfl⟩ := List.mem_map.1 hx
      exact (hf i (List.mem_range.1 hi)).choose_spec.2.2.2
theorem list1L {α : Type} {cs : List α} (h : cs.length = 1) : ∃ c0, cs = [c0] := by
  match cs, h with
  | [c0], _ => exact ⟨c0, rfl⟩
theorem list2L {α : Type} {cs : List α} (h : cs.length = 2) : ∃ c0 c1, cs = [c0, c1] := by
  match cs, h with
  | [c0, c1], _ => exact ⟨c0, c1, rfl⟩
theorem list3L {α : Type} {cs : List α} (h : cs.length = 3) : ∃ c0 c1 c2, cs = [c0, c1, c2] := by
  match cs, h with
  | [c0, c1, c2], _ => exact ⟨c0, c1, c2, rfl⟩
theorem list4L {α : Type} {cs : List α} (h : cs.length = 4) : ∃ c0 c1 c2 c3, cs = [c0, c1, c2, c3] := by
  match cs, h with
  | [c0, c1, c2, c3], _ => exact ⟨c0, c1, c2, c3, rfl⟩
theorem list9L {α : Type} {cs : List α} (h : cs.length = 9) : ∃ c0 c1 c2 c3 c4 c5 c6 c7 c8, cs = [c0, c1, c2, c3, c4, c5, c6, c7, c8] := by
  match cs, h with
  | [c0, c1, c2, c3, c4, c5, c6, c7, c8], _ => exact ⟨c0, c1, c2, c3, c4, c5, c6, c7, c8, rfl⟩
theorem cellsN : Try.prog.cellsOf 2 = 1 := by kernel_rfl
set_option maxRecDepth 1000000 in
theorem open_mopE {H : Type} {enc : TypeId × Value → H} {W : World} {n : Nat} {cs : List Value} {z : DataW H × List MemPlace} (hl : cs.length = 4) (h : DataW.trod enc Try.prog W 0 (fun _ => true) true n 69 cs = some z) :
    ∃ x : OpM, MopR false 0 W.heap.size W cs x ∧ True := by
  obtain ⟨c0, c1, c2, c3, rfl⟩ := list4L hl
  obtain ⟨xs, n', _, hx, _, hlen, hfld⟩ := DataW.trod_struct Try.underlying69 h
  obtain ⟨y0, y1, y2, y3, rfl⟩ := list4L hlen
  have g0 : DataW.trod enc Try.prog W 0 (fun _ => true) true n' 2 [c0] = some y0 := by simpa [cellsN] using hfld 0 _ rfl
  have g1 : DataW.trod enc Try.prog W 0 (fun _ => true) true n' 2 [c1] = some y1 := by simpa [cellsN] using hfld 1 _ rfl
  have g2 : DataW.trod enc Try.prog W 0 (fun _ => true) true n' 2 [c2] = some y2 := by simpa [cellsN] using hfld 2 _ rfl
  have g3 : DataW.trod enc Try.prog W 0 (fun _ => true) true n' 2 [c3] = some y3 := by simpa [cellsN] using hfld 3 _ rfl
  obtain ⟨i0, e0, -, w0⟩ := DataW.trod_int Try.underlying2 g0
  simp at e0
  subst e0
  obtain ⟨i1, e1, -, w1⟩ := DataW.trod_int Try.underlying2 g1
  simp at e1
  subst e1
  obtain ⟨i2, e2, -, w2⟩ := DataW.trod_int Try.underlying2 g2
  simp at e2
  subst e2
  obtain ⟨i3, e3, -, w3⟩ := DataW.trod_int Try.underlying2 g3
  simp at e3
  subst e3
  exact ⟨⟨i0, i1, i2, i3⟩, rfl, trivial⟩
end Go.Proofs.Ytcigiilhlealdaa
