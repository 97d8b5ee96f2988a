/- What the program answers: the tour, sorted. -/
import Derived.Test.YtkpeimklcoggkaaRcN
import Derived.Test.YtkpeimklcoggkaaSo0
import Derived.Sort.OwnSortedInts
namespace Go.Proofs.Ytkpeimklcoggkaa
set_option linter.unusedVariables false
open Go.ChangeShapes Go.WideShapes Go.ChangeAt Go.RowKit Go.Maps Go.Sort

set_option maxRecDepth 1000000 in
set_option maxHeartbeats 4000000 in
theorem sort_calls (base : Nat) (rv : Value) (row : List Int) (w : World) (hbase : base ≤ w.heap.size) (hl : row.length ≤ 4000) (ho : w.ownsRow base 2 1 rv row.length (row.map (Value.int .i64))) :
    Calls Try.prog 19 #[rv] w fun e w' => e = .returned (.tuple #[]) ∧ w'.ownsRow base 2 1 rv row.length ((row.mergeSort (fun x y => decide (x ≤ y))).map (Value.int .i64)) ∧ Below base w w' := by
  by_cases h0 : row.length = 0
  · have hnil : row = [] := List.eq_nil_of_length_eq_zero h0
    subst hnil
    obtain ⟨a, c, rfl⟩ := own_form ho
    have hc := AnyM.slices_Sort_int_none Try.laysort a c w
    change Calls Try.prog 19 _ _ _ at hc
    refine hc.mono ?_
    rintro e w' ⟨rfl, rfl⟩
    exact ⟨rfl, by simpa using ho, Below.refl _ _⟩
  · obtain ⟨g, c, rfl⟩ := own_some ho (by omega)
    have hlt := (own_lt ho rfl)
    have hc := AnyM.slices_Sort_int Try.laysort g 0 c row w (fun j hj => by
      have hj' : j < row.length := by simpa using hj
      refine ⟨?_, by simpa using ho.frozenAt j⟩
      have := ho.cellAt j (by omega)
      rw [Nat.zero_add, this]
      simp [hj']) hlt.2 (by omega)
    change Calls Try.prog 19 _ _ _ at hc
    refine hc.mono ?_
    rintro e w' ⟨rfl, n, os, rfl⟩
    rcases ho.2 with ⟨h', _⟩ | ⟨g', cap, cur, hv, hb, hg, h1, h2, h3, h4⟩
    · cases h'
    cases hv
    exact ⟨rfl, ownsRow_sortedI (by simp) hb hg h1 h2 h3, (Below.refl _ _).grown (grownBy_sortedI _) hbase (fun k e => by cases e; exact hb)⟩

set_option maxRecDepth 1000000 in
set_option maxHeartbeats 4000000 in
theorem implReached_calls (u0 u1 : Value) (objs : List ObjL) (roots : List Int) (w : World) (lo hi lo2 hi2 : Nat) (hh : hi ≤ w.heap.size) (hh2 : hi2 ≤ w.heap.size) (ho : ListAt ObjR 3 true lo hi w u0 objs) (hr : ListAt IntR 1 true lo2 hi2 w u1 roots) (hn : objs.length ≤ 1048576) (hn2 : roots.length ≤ 1048576) (hs : (objs.map (fun x => x.vals.length)).sum ≤ 1048576) :
    Calls Try.prog 8 #[u0, u1] w fun e w' => ∃ v, e = .returned v ∧ IntsAt w.heap.size w'.heap.size w' v (reachL objs roots) ∧ Below w.heap.size w w' := by
  obtain ⟨a0, c0, rfl⟩ := ho.form
  rcases hr with ⟨hr, _⟩ | ⟨rb, roff, rc, rfl, hr1, hr2, hr3, hr4⟩
  · cases hr
  obtain ⟨rfl, hr5⟩ := hr3 rfl
  have hrc : Hid (∀ j (h : j < roots.length), w.cell? ⟨rb, j, none⟩ = some (.int .i64 roots[j])) := fun j h => by
    obtain ⟨row, _, hrr, hx, _⟩ := hr4 j h
    have hx : row = [.int .i64 roots[j]] := hx
    simpa using hrr 0 _ (by rw [hx]; rfl)
  have hrb : rb < w.heap.size := by omega
  have hoK : Hid (∀ m (hm : m < objs.length), ∃ b off ua uc, a0 = some ⟨b, off, none⟩ ∧ ∀ W, Below w.heap.size w W → ObjAt W b off objs m hm ua uc) := fun m hm => objAt_keep ho hh m hm
  have hsH : Hid ((objs.map (fun x => x.vals.length)).sum ≤ 1048576) := hs
  obtain ⟨N, hN⟩ : ∃ N, N = objs.length := ⟨_, rfl⟩
  obtain ⟨R, hR⟩ : ∃ R, R = roots.length := ⟨_, rfl⟩
  have hNH : Hid (N = objs.length) := hN
  have hRH : Hid (R = roots.length) := hR
  clear ho hr4 hr5 hr3 hr1 hr2 hh hh2 hs
  rw [← hN] at hn ⊢
  rw [← hR] at hn2 ⊢
  clear hN hR
  have hn' : (N : Int) ≤ 1048576 := by omega
  have hn2' : (R : Int) ≤ 1048576 := by omega
  by_cases hA : reachA objs roots
  · have hL : Hid (reachL objs roots = rchL objs.length roots (outOf objs)) := by show _ = _; unfold reachL; rw [if_pos hA]
    obtain ⟨hA1, hA2⟩ := hA
    rw [← hNH.out] at hA1
    rw [← hRH.out] at hA2
    have hN1 : (N : Int) ≤ 4000 := by omega
    have hR1 : (R : Int) ≤ 4000 := by omega
    generalize reachL objs roots = rl at hL ⊢
    clear hn hn2 hn' hn2'
    go_enter Try.func8, Try.ntmps8
    go_wp2_with (first | (go_at_call 17; refine (newTour_calls a0 N c0 w).mono ?_; rintro e w1 ⟨M, rfl, hM1, hM2, hb1⟩))
    have hml := hM2.lt
    have hb2 : Below w.heap.size w (w1.alloc (.cells #[.slice a0 N c0, .map (some M)] 46)) := hb1.alloc hb1.size _
    have hg := World.grownBy_alloc w1 (.cells #[.slice a0 N c0, .map (some M)] 46) none
    have e1 := heap_alloc_new w1 (.cells #[.slice a0 N c0, .map (some M)] 46)
    have hcall : Hid (Calls Try.prog 18 #[.pointer (some ⟨w1.heap.size, 0, none⟩), .slice (some ⟨rb, 0, none⟩) R rc] (w1.alloc (.cells #[.slice a0 N c0, .map (some M)] 46)) fun e w' => ReachQ objs roots w e w') :=
      tourReached_calls w _ a0 N c0 w1.heap.size M objs roots rb rc R hNH hRH hA1 hA2 hoK hrb hrc hsH hb2 (by simp only [World.cell?, e1]; rfl) (by simp only [World.cell?, e1]; rfl) (hM2.kept hg (by simp)) hb1.size hM1 (by simp) (by omega)
    clear hM1 hM2 hb1 hml hb2 hg e1
    refine hcall.out.mono ?_
    rintro e w2 ⟨rv, row, k, rfl, hF, hk, hown, hb3⟩
    have hl4 : row.length ≤ 4000 := by have := hF.len; rw [← hNH.out] at this; omega
    have hsort : Hid (Calls Try.prog 19 #[rv] w2 fun e w' => e = .returned (.tuple #[]) ∧ w'.ownsRow w.heap.size 2 1 rv row.length ((row.mergeSort (fun x y => decide (x ≤ y))).map (Value.int .i64)) ∧ Below w.heap.size w2 w') :=
      sort_calls w.heap.size rv row w2 hb3.size hl4 hown
    have hrlH : Hid (rl = row.mergeSort (fun x y => decide (x ≤ y))) := by show _ = _; rw [hL.out, hF.sorted hk]
    obtain ⟨va, vc, rfl⟩ := own_form hown
    have hb3H : Hid (Below w.heap.size w w2) := hb3
    clear hF hown hk hcall hL hb3
    go_wp2_with (first | (go_at_call 19; refine hsort.out.mono ?_; rintro e w3 ⟨rfl, hown3, hb4⟩))
    go_ret
    refine ⟨_, rfl, ?_, hb3H.out.trans hb4⟩
    rw [hrlH.out]
    refine own_ints ?_
    rw [List.length_mergeSort]
    exact hown3
  · have hL : Hid (reachL objs roots = []) := by show _ = _; unfold reachL; rw [if_neg hA]
    generalize reachL objs roots = rl at hL ⊢
    have hcase : N > 4000 ∨ (N ≤ 4000 ∧ R > 4000) := by
      by_cases q : N ≤ 4000
      · right; refine ⟨q, ?_⟩
        apply Nat.lt_of_not_le
        intro q2
        exact hA ⟨by rw [← hNH.out]; exact q, by rw [← hRH.out]; exact q2⟩
      · left; omega
    clear hA
    go_enter Try.func8, Try.ntmps8
    rcases hcase with h1 | ⟨h1, h2⟩
    · have h1' : (4000 : Int) < N := by omega
      go_wp2
      go_ret
      exact ⟨_, rfl, by rw [hL.out]; exact .inl ⟨rfl, _, _, rfl⟩, Below.refl _ _⟩
    · have h1' : (N : Int) ≤ 4000 := by omega
      have h2' : (4000 : Int) < R := by omega
      go_wp2
      go_ret
      exact ⟨_, rfl, by rw [hL.out]; exact .inl ⟨rfl, _, _, rfl⟩, Below.refl _ _⟩
end Go.Proofs.Ytkpeimklcoggkaa
