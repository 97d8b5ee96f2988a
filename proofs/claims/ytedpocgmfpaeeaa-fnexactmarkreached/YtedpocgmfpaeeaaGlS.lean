/- How great heaps are. -/
import Derived.Test.YtedpocgmfpaeeaaGlA
namespace Go.Proofs.Ytedpocgmfpaeeaa
set_option linter.unusedVariables false
open Go.ChangeShapes Go.WideShapes Go.ChangeAt Go.RowKit

set_option maxRecDepth 1000000 in
theorem szInts_calls (x : List Int) (hn : x.length ≤ 9223372036854775807) : ListSz 21 1 IntR List.length x := by
  intro w u own lo hi l hh ht hl0 hl1
  obtain ⟨a, c, rfl⟩ := ht.form
  clear ht hh
  obtain ⟨n, hnn⟩ : ∃ n, n = x.length := ⟨_, rfl⟩
  rw [← hnn] at hn ⊢
  clear hnn
  by_cases hc : l < n
  · go_enter Try.func21, Try.ntmps21
    go_wp2
    go_ret
    exact ⟨SzQ.neg hc, Below.refl _ _⟩
  · go_enter Try.func21, Try.ntmps21
    go_wp2
    go_ret
    exact ⟨SzQ.pos (by omega) rfl, Below.refl _ _⟩

def GobL.sz (x : GobL) : Nat := x.flds.length
def GobL.upto (x : GobL) : Prop := x.flds.length ≤ 9223372036854775807
def GhpL.sz (x : GhpL) : Nat := sumL GobL.sz x.objs + x.roots.length + x.queue.length + x.tops.length + x.dirty.length
def GhpL.upto (x : GhpL) : Prop := x.objs.length ≤ 9223372036854775807 ∧ (∀ y ∈ x.objs, y.upto) ∧ x.roots.length ≤ 9223372036854775807 ∧ x.queue.length ≤ 9223372036854775807 ∧ x.tops.length ≤ 9223372036854775807 ∧ x.dirty.length ≤ 9223372036854775807
theorem GhpL.small_of_sz {x : GhpL} (h : x.sz ≤ 1048576) : x.small := by
  unfold GhpL.sz sumL at h
  exact ⟨by omega, by omega, by omega, by omega, by omega, fun y hy => by have := sum_mem_le GobL.sz x.objs y hy; have h2 : y.sz = y.flds.length := rfl; show y.flds.length ≤ _; omega⟩
set_option maxRecDepth 1000000 in
theorem szGob_calls (x : GobL) (hy : x.upto) : ElemSz 38 5 GobR GobL.sz x := by
  intro w row own lo hi l hh hx hl hl0 hl1
  obtain ⟨p, rfl, hp⟩ := hx
  have c1 : Hid (∀ (W : World), Below w.heap.size w W → Calls Try.prog 21 #[p, .int .i64 l] W fun e w' => SzQ l x.flds.length e ∧ Below W.heap.size W w') := fun W hW =>
    szInts_calls x.flds hy W p own lo hi l (Nat.le_trans hh hW.size) (hp.kept IntR.stable (Nat.le_refl _) (Nat.le_refl _) ((Same.below hW).mono (Nat.zero_le _) hh)) hl0 hl1
  obtain ⟨a1, k1, rfl⟩ := hp.form
  unfold GobL.sz
  generalize x.flds.length = n1 at *
  clear hp hl hh hy
  by_cases h1 : l < n1
  · go_enter Try.func38, Try.ntmps38
    go_wp2_with (first | (go_at_call 21; refine (c1.out _ (below_1 _ _)).mono ?_; rintro e w1 ⟨⟨r, rfl, hr1, hr2⟩, hb1⟩; obtain rfl := hr1 h1))
    go_ret
    exact ⟨SzQ.neg h1, below_on2 (below_1 _ _) hb1⟩
  · go_enter Try.func38, Try.ntmps38
    go_wp2_with (first | (go_at_call 21; refine (c1.out _ (below_1 _ _)).mono ?_; rintro e w1 ⟨⟨r, rfl, hr1, hr2⟩, hb1⟩; obtain rfl := hr2 (by omega)))
    go_ret
    exact ⟨SzQ.pos (by omega) rfl, below_on2 (below_1 _ _) hb1⟩

set_option maxRecDepth 1000000 in
set_option maxHeartbeats 1000000 in
theorem szGobS_calls (v : Value) (xs : List GobL) (w : World) (own : Bool) (lo hi : Nat) (l : Int) (hh : hi ≤ w.heap.size) (ht : ListAt GobR 5 own lo hi w v xs) (hn : xs.length ≤ 9223372036854775807) (hl0 : 0 ≤ l) (hl1 : l ≤ 1048576) (hel : ∀ x ∈ xs, ElemSz 38 5 GobR GobL.sz x) :
    Calls Try.prog 20 #[v, .int .i64 l] w fun e w' => SzQ l (sumL GobL.sz xs) e ∧ Below w.heap.size w w' := by
  have hldH : Hid ((Try.prog.info? 76).map (·.size) = some 5) := by show (Try.prog.info? 76).map (·.size) = some 5; kernel_rfl
  obtain ⟨a, c, rfl⟩ := ht.form
  have helH : Hid (∀ x ∈ xs, ElemSz 38 5 GobR GobL.sz x) := hel
  have htH : Hid (∀ wr, Below w.heap.size w wr → ListAt GobR 5 own lo hi wr (.slice a xs.length c) xs) := fun wr hw => ht.kept GobR.stable (Nat.le_refl _) (Nat.le_refl _) ((Same.below hw).mono (Nat.zero_le _) hh)
  have hhH : Hid (hi ≤ w.heap.size) := hh
  clear ht hel hh
  by_cases hc : l < xs.length
  · go_enter Try.func20, Try.ntmps20
    go_wp2
    go_ret
    exact ⟨SzQ.neg (by unfold sumL; omega), Below.refl _ _⟩
  go_enter Try.func20, Try.ntmps20
  go_wp2
  go_loopw [1, 5] (fun q i wr => ∃ (m : Nat) (z : Int), m ≤ xs.length ∧ q = .int .i64 z ∧ 0 ≤ z ∧ z ≤ 1048576 ∧ Hid (z = l - (xs.length + ((xs.take m).map GobL.sz).sum : Nat)) ∧ i = .int .i64 m ∧ Hid (Below w.heap.size w wr)) (fun _ i _ => xs.length - (intOf i).toNat)
  case atStart => exact ⟨0, _, Nat.zero_le _, rfl, by omega, by omega, by simp [Hid], rfl, Below.refl _ _⟩
  case round =>
    obtain ⟨m, z, hm, rfl, hz0, hz1, hz, rfl, hB⟩ := hrel
    by_cases hlt : m < xs.length
    · obtain ⟨b, off, row, rfl, hbb, hrl, hrr, hrx⟩ := (htH.out wr hB.out).at m hlt
      have hlt' : (m : Int) < (xs.length : Int) := by omega
      have hcallH : Hid (Calls Try.prog 38 #[.agg row.toArray, .int .i64 z] wr fun e w' => SzQ z (GobL.sz xs[m]) e ∧ Below wr.heap.size wr w') := helH.out xs[m] (List.getElem_mem hlt) wr row own lo hi z (Nat.le_trans hhH.out hB.out.size) hrx hrl hz0 hz1
      have hrrH : Hid (wr.rangeAt b (off + m * 5) row) := hrr
      have hrlH : Hid (row.length = 5) := hrl
      have hst : Hid (((xs.take (m + 1)).map GobL.sz).sum = ((xs.take m).map GobL.sz).sum + GobL.sz xs[m]) := sum_take GobL.sz xs m hlt
      have hle : Hid (((xs.take (m + 1)).map GobL.sz).sum ≤ (xs.map GobL.sz).sum) := sum_take_le GobL.sz xs (m + 1)
      obtain ⟨n, hnn⟩ : ∃ n, n = GobL.sz xs[m] := ⟨_, rfl⟩
      rw [← hnn] at hcallH hst
      clear hrr hrl hrx hnn
      by_cases hcc : z < n
      · go_wp2_with (first
          | (refine wpList_load_mid rfl 76 _ rfl b (off + m * 5) (by first | rfl | (simp; done)) row _ hrrH.out Try.underlying76 rfl (by rw [hrlH.out]; exact hldH.out) ?_)
          | (go_at_call 38; refine hcallH.out.mono ?_; rintro e w2 ⟨⟨r, rfl, hr1, hr2⟩, hb2⟩; obtain rfl := hr1 hcc))
        go_ret
        have := hz.out; have := hst.out; have := hle.out
        exact ⟨SzQ.neg (by unfold sumL; omega), below_on2 hB.out hb2⟩
      · go_wp2_with (first
          | (refine wpList_load_mid rfl 76 _ rfl b (off + m * 5) (by first | rfl | (simp; done)) row _ hrrH.out Try.underlying76 rfl (by rw [hrlH.out]; exact hldH.out) ?_)
          | (go_at_call 38; refine hcallH.out.mono ?_; rintro e w2 ⟨⟨r, rfl, hr1, hr2⟩, hb2⟩; obtain rfl := hr2 (by omega)))
        go_roundw
        case rel =>
          have := hz.out; have := hst.out
          exact ⟨m + 1, _, by omega, rfl, by omega, by omega, (show _ = _ by omega), by go_num, below_on2 hB.out hb2⟩
        case measure => simp [intOf]; omega
    · go_wp2
      go_ret
      have h := hz.out
      rw [List.take_of_length_le (by omega)] at h
      exact ⟨SzQ.pos (by unfold sumL; omega) (by unfold sumL; omega), hB.out⟩

set_option maxRecDepth 1000000 in
set_option maxHeartbeats 4000000 in
theorem szGhp_calls (x : GhpL) (hy : x.upto) : ElemSz 5 6 GhpR GhpL.sz x := by
  intro w row own lo hi l hh hx hl hl0 hl1
  obtain ⟨p0, p1, p2, p3, p4, rfl, g0, g1, g2, g3, g4⟩ := hx
  obtain ⟨y0, y1, y2, y3, y4, y5⟩ := hy
  have c0 : Hid (∀ (l : Int) (W : World), Below w.heap.size w W → 0 ≤ l → l ≤ 1048576 → Calls Try.prog 20 #[p0, .int .i64 l] W fun e w' => SzQ l (sumL GobL.sz x.objs) e ∧ Below W.heap.size W w') := fun l W hW h0 h1 =>
    szGobS_calls p0 x.objs W own lo hi l (Nat.le_trans hh hW.size) (g0.kept GobR.stable (Nat.le_refl _) (Nat.le_refl _) ((Same.below hW).mono (Nat.zero_le _) hh)) y0 h0 h1 (fun z hz => szGob_calls z (y1 z hz))
  have c1 : Hid (∀ (l : Int) (W : World), Below w.heap.size w W → 0 ≤ l → l ≤ 1048576 → Calls Try.prog 21 #[p1, .int .i64 l] W fun e w' => SzQ l x.roots.length e ∧ Below W.heap.size W w') := fun l W hW h0 h1 =>
    szInts_calls x.roots y2 W p1 own lo hi l (Nat.le_trans hh hW.size) (g1.kept IntR.stable (Nat.le_refl _) (Nat.le_refl _) ((Same.below hW).mono (Nat.zero_le _) hh)) h0 h1
  have c2 : Hid (∀ (l : Int) (W : World), Below w.heap.size w W → 0 ≤ l → l ≤ 1048576 → Calls Try.prog 21 #[p2, .int .i64 l] W fun e w' => SzQ l x.queue.length e ∧ Below W.heap.size W w') := fun l W hW h0 h1 =>
    szInts_calls x.queue y3 W p2 own lo hi l (Nat.le_trans hh hW.size) (g2.kept IntR.stable (Nat.le_refl _) (Nat.le_refl _) ((Same.below hW).mono (Nat.zero_le _) hh)) h0 h1
  have c3 : Hid (∀ (l : Int) (W : World), Below w.heap.size w W → 0 ≤ l → l ≤ 1048576 → Calls Try.prog 21 #[p3, .int .i64 l] W fun e w' => SzQ l x.tops.length e ∧ Below W.heap.size W w') := fun l W hW h0 h1 =>
    szInts_calls x.tops y4 W p3 own lo hi l (Nat.le_trans hh hW.size) (g3.kept IntR.stable (Nat.le_refl _) (Nat.le_refl _) ((Same.below hW).mono (Nat.zero_le _) hh)) h0 h1
  have c4 : Hid (∀ (l : Int) (W : World), Below w.heap.size w W → 0 ≤ l → l ≤ 1048576 → Calls Try.prog 21 #[p4, .int .i64 l] W fun e w' => SzQ l x.dirty.length e ∧ Below W.heap.size W w') := fun l W hW h0 h1 =>
    szInts_calls x.dirty y5 W p4 own lo hi l (Nat.le_trans hh hW.size) (g4.kept IntR.stable (Nat.le_refl _) (Nat.le_refl _) ((Same.below hW).mono (Nat.zero_le _) hh)) h0 h1
  obtain ⟨a0, k0, rfl⟩ := g0.form
  obtain ⟨a1, k1, rfl⟩ := g1.form
  obtain ⟨a2, k2, rfl⟩ := g2.form
  obtain ⟨a3, k3, rfl⟩ := g3.form
  obtain ⟨a4, k4, rfl⟩ := g4.form
  unfold GhpL.sz
  generalize sumL GobL.sz x.objs = n0 at *
  generalize x.objs.length = m0 at *
  generalize x.roots.length = n1 at *
  generalize x.queue.length = n2 at *
  generalize x.tops.length = n3 at *
  generalize x.dirty.length = n4 at *
  generalize x.from_ = fr at *
  clear g0 g1 g2 g3 g4 hl hh y0 y1 y2 y3 y4 y5
  obtain ⟨W0, hW0⟩ : ∃ W0 : World, W0 = w.alloc (.cells #[.slice a0 m0 k0, .slice a1 n1 k1, .slice a2 n2 k2, .int .i64 fr, .slice a3 n3 k3, .slice a4 n4 k4] 25) := ⟨_, rfl⟩
  have r0 : W0.rangeAt w.heap.size 0 [.slice a0 m0 k0, .slice a1 n1 k1, .slice a2 n2 k2, .int .i64 fr, .slice a3 n3 k3, .slice a4 n4 k4] := by rw [hW0]; exact rangeAt_heap (heap_alloc_new w _)
  have hs0 : w.heap.size < W0.heap.size := by rw [hW0]; simp
  have hb0 : Hid (Below w.heap.size w W0) := by show Below _ _ _; rw [hW0]; exact below_1 _ _
  have hcl : Hid (∀ W, Below W0.heap.size W0 W → W.cell? ⟨w.heap.size, 0, none⟩ = some (.slice a0 m0 k0) ∧ W.cell? ⟨w.heap.size, 1, none⟩ = some (.slice a1 n1 k1) ∧ W.cell? ⟨w.heap.size, 2, none⟩ = some (.slice a2 n2 k2) ∧ W.cell? ⟨w.heap.size, 4, none⟩ = some (.slice a3 n3 k3) ∧ W.cell? ⟨w.heap.size, 5, none⟩ = some (.slice a4 n4 k4)) := fun W hW => ⟨(hW.cell (p := ⟨w.heap.size, 0, none⟩) hs0).trans (r0 0 _ rfl), (hW.cell (p := ⟨w.heap.size, 1, none⟩) hs0).trans (r0 1 _ rfl), (hW.cell (p := ⟨w.heap.size, 2, none⟩) hs0).trans (r0 2 _ rfl), (hW.cell (p := ⟨w.heap.size, 4, none⟩) hs0).trans (r0 4 _ rfl), (hW.cell (p := ⟨w.heap.size, 5, none⟩) hs0).trans (r0 5 _ rfl)⟩
  clear r0 hs0
  by_cases q0 : l < n0
  · go_enter Try.func5, Try.ntmps5
    go_upto_region 1 with fail
    rw [← hW0]
    clear hW0
    obtain ⟨j0, j1, j2, j3, j4⟩ := hcl.out W0 (Below.refl _ _)
    go_wp2_with fail
    clear j0 j1 j2 j3 j4
    refine (show Calls _ _ _ _ _ from c0.out _ _ hb0.out (by omega) (by omega)).mono ?_
    rintro e w1 ⟨⟨r, rfl, hr1, hr2⟩, hb1⟩
    have B0 : Hid (Below w.heap.size w w1) := below_on2 hb0.out hb1
    have D0 : Hid (Below W0.heap.size W0 w1) := hb1
    obtain rfl := hr1 (by omega)
    go_wp2
    go_ret
    exact ⟨SzQ.neg (by omega), B0.out⟩
  by_cases q1 : l - n0 < n1
  · go_enter Try.func5, Try.ntmps5
    go_upto_region 1 with fail
    rw [← hW0]
    clear hW0
    obtain ⟨j0, j1, j2, j3, j4⟩ := hcl.out W0 (Below.refl _ _)
    go_wp2_with fail
    clear j0 j1 j2 j3 j4
    refine (show Calls _ _ _ _ _ from c0.out _ _ hb0.out (by omega) (by omega)).mono ?_
    rintro e w1 ⟨⟨r, rfl, hr1, hr2⟩, hb1⟩
    have B0 : Hid (Below w.heap.size w w1) := below_on2 hb0.out hb1
    have D0 : Hid (Below W0.heap.size W0 w1) := hb1
    obtain rfl := hr2 (by omega)
    clear hr1 hr2 hb1
    obtain ⟨j0, j1, j2, j3, j4⟩ := hcl.out w1 (D0.out)
    go_wp2_with fail
    clear j0 j1 j2 j3 j4
    refine (show Calls _ _ _ _ _ from c1.out _ _ B0.out (by omega) (by omega)).mono ?_
    rintro e w2 ⟨⟨r, rfl, hr1, hr2⟩, hb1⟩
    have B1 : Hid (Below w.heap.size w w2) := below_on2 B0.out hb1
    have D1 : Hid (Below W0.heap.size W0 w2) := below_on2 D0.out hb1
    obtain rfl := hr1 (by omega)
    go_wp2
    go_ret
    exact ⟨SzQ.neg (by omega), B1.out⟩
  by_cases q2 : l - n0 - n1 < n2
  · go_enter Try.func5, Try.ntmps5
    go_upto_region 1 with fail
    rw [← hW0]
    clear hW0
    obtain ⟨j0, j1, j2, j3, j4⟩ := hcl.out W0 (Below.refl _ _)
    go_wp2_with fail
    clear j0 j1 j2 j3 j4
    refine (show Calls _ _ _ _ _ from c0.out _ _ hb0.out (by omega) (by omega)).mono ?_
    rintro e w1 ⟨⟨r, rfl, hr1, hr2⟩, hb1⟩
    have B0 : Hid (Below w.heap.size w w1) := below_on2 hb0.out hb1
    have D0 : Hid (Below W0.heap.size W0 w1) := hb1
    obtain rfl := hr2 (by omega)
    clear hr1 hr2 hb1
    obtain ⟨j0, j1, j2, j3, j4⟩ := hcl.out w1 (D0.out)
    go_wp2_with fail
    clear j0 j1 j2 j3 j4
    refine (show Calls _ _ _ _ _ from c1.out _ _ B0.out (by omega) (by omega)).mono ?_
    rintro e w2 ⟨⟨r, rfl, hr1, hr2⟩, hb1⟩
    have B1 : Hid (Below w.heap.size w w2) := below_on2 B0.out hb1
    have D1 : Hid (Below W0.heap.size W0 w2) := below_on2 D0.out hb1
    obtain rfl := hr2 (by omega)
    clear hr1 hr2 hb1
    obtain ⟨j0, j1, j2, j3, j4⟩ := hcl.out w2 (D1.out)
    go_wp2_with fail
    clear j0 j1 j2 j3 j4
    refine (show Calls _ _ _ _ _ from c2.out _ _ B1.out (by omega) (by omega)).mono ?_
    rintro e w3 ⟨⟨r, rfl, hr1, hr2⟩, hb1⟩
    have B2 : Hid (Below w.heap.size w w3) := below_on2 B1.out hb1
    have D2 : Hid (Below W0.heap.size W0 w3) := below_on2 D1.out hb1
    obtain rfl := hr1 (by omega)
    go_wp2
    go_ret
    exact ⟨SzQ.neg (by omega), B2.out⟩
  by_cases q3 : l - n0 - n1 - n2 < n3
  · go_enter Try.func5, Try.ntmps5
    go_upto_region 1 with fail
    rw [← hW0]
    clear hW0
    obtain ⟨j0, j1, j2, j3, j4⟩ := hcl.out W0 (Below.refl _ _)
    go_wp2_with fail
    clear j0 j1 j2 j3 j4
    refine (show Calls _ _ _ _ _ from c0.out _ _ hb0.out (by omega) (by omega)).mono ?_
    rintro e w1 ⟨⟨r, rfl, hr1, hr2⟩, hb1⟩
    have B0 : Hid (Below w.heap.size w w1) := below_on2 hb0.out hb1
    have D0 : Hid (Below W0.heap.size W0 w1) := hb1
    obtain rfl := hr2 (by omega)
    clear hr1 hr2 hb1
    obtain ⟨j0, j1, j2, j3, j4⟩ := hcl.out w1 (D0.out)
    go_wp2_with fail
    clear j0 j1 j2 j3 j4
    refine (show Calls _ _ _ _ _ from c1.out _ _ B0.out (by omega) (by omega)).mono ?_
    rintro e w2 ⟨⟨r, rfl, hr1, hr2⟩, hb1⟩
    have B1 : Hid (Below w.heap.size w w2) := below_on2 B0.out hb1
    have D1 : Hid (Below W0.heap.size W0 w2) := below_on2 D0.out hb1
    obtain rfl := hr2 (by omega)
    clear hr1 hr2 hb1
    obtain ⟨j0, j1, j2, j3, j4⟩ := hcl.out w2 (D1.out)
    go_wp2_with fail
    clear j0 j1 j2 j3 j4
    refine (show Calls _ _ _ _ _ from c2.out _ _ B1.out (by omega) (by omega)).mono ?_
    rintro e w3 ⟨⟨r, rfl, hr1, hr2⟩, hb1⟩
    have B2 : Hid (Below w.heap.size w w3) := below_on2 B1.out hb1
    have D2 : Hid (Below W0.heap.size W0 w3) := below_on2 D1.out hb1
    obtain rfl := hr2 (by omega)
    clear hr1 hr2 hb1
    obtain ⟨j0, j1, j2, j3, j4⟩ := hcl.out w3 (D2.out)
    go_wp2_with fail
    clear j0 j1 j2 j3 j4
    refine (show Calls _ _ _ _ _ from c3.out _ _ B2.out (by omega) (by omega)).mono ?_
    rintro e w4 ⟨⟨r, rfl, hr1, hr2⟩, hb1⟩
    have B3 : Hid (Below w.heap.size w w4) := below_on2 B2.out hb1
    have D3 : Hid (Below W0.heap.size W0 w4) := below_on2 D2.out hb1
    obtain rfl := hr1 (by omega)
    go_wp2
    go_ret
    exact ⟨SzQ.neg (by omega), B3.out⟩
  by_cases q4 : l - n0 - n1 - n2 - n3 < n4
  · go_enter Try.func5, Try.ntmps5
    go_upto_region 1 with fail
    rw [← hW0]
    clear hW0
    obtain ⟨j0, j1, j2, j3, j4⟩ := hcl.out W0 (Below.refl _ _)
    go_wp2_with fail
    clear j0 j1 j2 j3 j4
    refine (show Calls _ _ _ _ _ from c0.out _ _ hb0.out (by omega) (by omega)).mono ?_
    rintro e w1 ⟨⟨r, rfl, hr1, hr2⟩, hb1⟩
    have B0 : Hid (Below w.heap.size w w1) := below_on2 hb0.out hb1
    have D0 : Hid (Below W0.heap.size W0 w1) := hb1
    obtain rfl := hr2 (by omega)
    clear hr1 hr2 hb1
    obtain ⟨j0, j1, j2, j3, j4⟩ := hcl.out w1 (D0.out)
    go_wp2_with fail
    clear j0 j1 j2 j3 j4
    refine (show Calls _ _ _ _ _ from c1.out _ _ B0.out (by omega) (by omega)).mono ?_
    rintro e w2 ⟨⟨r, rfl, hr1, hr2⟩, hb1⟩
    have B1 : Hid (Below w.heap.size w w2) := below_on2 B0.out hb1
    have D1 : Hid (Below W0.heap.size W0 w2) := below_on2 D0.out hb1
    obtain rfl := hr2 (by omega)
    clear hr1 hr2 hb1
    obtain ⟨j0, j1, j2, j3, j4⟩ := hcl.out w2 (D1.out)
    go_wp2_with fail
    clear j0 j1 j2 j3 j4
    refine (show Calls _ _ _ _ _ from c2.out _ _ B1.out (by omega) (by omega)).mono ?_
    rintro e w3 ⟨⟨r, rfl, hr1, hr2⟩, hb1⟩
    have B2 : Hid (Below w.heap.size w w3) := below_on2 B1.out hb1
    have D2 : Hid (Below W0.heap.size W0 w3) := below_on2 D1.out hb1
    obtain rfl := hr2 (by omega)
    clear hr1 hr2 hb1
    obtain ⟨j0, j1, j2, j3, j4⟩ := hcl.out w3 (D2.out)
    go_wp2_with fail
    clear j0 j1 j2 j3 j4
    refine (show Calls _ _ _ _ _ from c3.out _ _ B2.out (by omega) (by omega)).mono ?_
    rintro e w4 ⟨⟨r, rfl, hr1, hr2⟩, hb1⟩
    have B3 : Hid (Below w.heap.size w w4) := below_on2 B2.out hb1
    have D3 : Hid (Below W0.heap.size W0 w4) := below_on2 D2.out hb1
    obtain rfl := hr2 (by omega)
    clear hr1 hr2 hb1
    obtain ⟨j0, j1, j2, j3, j4⟩ := hcl.out w4 (D3.out)
    go_wp2_with fail
    clear j0 j1 j2 j3 j4
    refine (show Calls _ _ _ _ _ from c4.out _ _ B3.out (by omega) (by omega)).mono ?_
    rintro e w5 ⟨⟨r, rfl, hr1, hr2⟩, hb1⟩
    have B4 : Hid (Below w.heap.size w w5) := below_on2 B3.out hb1
    have D4 : Hid (Below W0.heap.size W0 w5) := below_on2 D3.out hb1
    obtain rfl := hr1 (by omega)
    go_wp2
    go_ret
    exact ⟨SzQ.neg (by omega), B4.out⟩
  go_enter Try.func5, Try.ntmps5
  go_upto_region 1 with fail
  rw [← hW0]
  clear hW0
  obtain ⟨j0, j1, j2, j3, j4⟩ := hcl.out W0 (Below.refl _ _)
  go_wp2_with fail
  clear j0 j1 j2 j3 j4
  refine (show Calls _ _ _ _ _ from c0.out _ _ hb0.out (by omega) (by omega)).mono ?_
  rintro e w1 ⟨⟨r, rfl, hr1, hr2⟩, hb1⟩
  have B0 : Hid (Below w.heap.size w w1) := below_on2 hb0.out hb1
  have D0 : Hid (Below W0.heap.size W0 w1) := hb1
  obtain rfl := hr2 (by omega)
  clear hr1 hr2 hb1
  obtain ⟨j0, j1, j2, j3, j4⟩ := hcl.out w1 (D0.out)
  go_wp2_with fail
  clear j0 j1 j2 j3 j4
  refine (show Calls _ _ _ _ _ from c1.out _ _ B0.out (by omega) (by omega)).mono ?_
  rintro e w2 ⟨⟨r, rfl, hr1, hr2⟩, hb1⟩
  have B1 : Hid (Below w.heap.size w w2) := below_on2 B0.out hb1
  have D1 : Hid (Below W0.heap.size W0 w2) := below_on2 D0.out hb1
  obtain rfl := hr2 (by omega)
  clear hr1 hr2 hb1
  obtain ⟨j0, j1, j2, j3, j4⟩ := hcl.out w2 (D1.out)
  go_wp2_with fail
  clear j0 j1 j2 j3 j4
  refine (show Calls _ _ _ _ _ from c2.out _ _ B1.out (by omega) (by omega)).mono ?_
  rintro e w3 ⟨⟨r, rfl, hr1, hr2⟩, hb1⟩
  have B2 : Hid (Below w.heap.size w w3) := below_on2 B1.out hb1
  have D2 : Hid (Below W0.heap.size W0 w3) := below_on2 D1.out hb1
  obtain rfl := hr2 (by omega)
  clear hr1 hr2 hb1
  obtain ⟨j0, j1, j2, j3, j4⟩ := hcl.out w3 (D2.out)
  go_wp2_with fail
  clear j0 j1 j2 j3 j4
  refine (show Calls _ _ _ _ _ from c3.out _ _ B2.out (by omega) (by omega)).mono ?_
  rintro e w4 ⟨⟨r, rfl, hr1, hr2⟩, hb1⟩
  have B3 : Hid (Below w.heap.size w w4) := below_on2 B2.out hb1
  have D3 : Hid (Below W0.heap.size W0 w4) := below_on2 D2.out hb1
  obtain rfl := hr2 (by omega)
  clear hr1 hr2 hb1
  obtain ⟨j0, j1, j2, j3, j4⟩ := hcl.out w4 (D3.out)
  go_wp2_with fail
  clear j0 j1 j2 j3 j4
  refine (show Calls _ _ _ _ _ from c4.out _ _ B3.out (by omega) (by omega)).mono ?_
  rintro e w5 ⟨⟨r, rfl, hr1, hr2⟩, hb1⟩
  have B4 : Hid (Below w.heap.size w w5) := below_on2 B3.out hb1
  have D4 : Hid (Below W0.heap.size W0 w5) := below_on2 D3.out hb1
  obtain rfl := hr2 (by omega)
  clear hr1 hr2 hb1
  go_wp2
  go_ret
  exact ⟨SzQ.pos (by omega) (by omega), B4.out⟩
end Go.Proofs.Ytedpocgmfpaeeaa
