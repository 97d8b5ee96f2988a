/- How great heaps of the marker are. -/
import Derived.Test.YtedpocgmfpaeeaaMlA
import Derived.Test.YtedpocgmfpaeeaaGlS
namespace Go.Proofs.Ytedpocgmfpaeeaa
set_option linter.unusedVariables false
open Go.ChangeShapes Go.WideShapes Go.ChangeAt Go.RowKit

def MobL.sz (x : MobL) : Nat := x.flds.length
def MobL.upto (x : MobL) : Prop := x.flds.length ≤ 9223372036854775807
def MhpL.sz (x : MhpL) : Nat := sumL MobL.sz x.objs + x.roots.length + x.row_.length
def MhpL.upto (x : MhpL) : Prop := x.objs.length ≤ 9223372036854775807 ∧ (∀ y ∈ x.objs, y.upto) ∧ x.roots.length ≤ 9223372036854775807 ∧ x.row_.length ≤ 9223372036854775807
theorem MhpL.small_of_sz {x : MhpL} (h : x.sz ≤ 1048576) : x.small := by
  unfold MhpL.sz sumL at h
  exact ⟨by omega, by omega, by omega, fun y hy => by have := sum_mem_le MobL.sz x.objs y hy; have h2 : y.sz = y.flds.length := rfl; show y.flds.length ≤ _; omega⟩
set_option maxRecDepth 1000000 in
theorem szMob_calls (x : MobL) (hy : x.upto) : ElemSz 45 3 MobR MobL.sz x := by
  intro w row own lo hi l hh hx hl hl0 hl1
  obtain ⟨p, rfl, hp⟩ := hx
  have c1 : Hid (∀ (W : World), Below w.heap.size w W → Calls Try.prog 21 #[p, .int .i64 l] W fun e w' => SzQ l x.flds.length e ∧ Below W.heap.size W w') := fun W hW =>
    szInts_calls x.flds hy W p own lo hi l (Nat.le_trans hh hW.size) (hp.kept IntR.stable (Nat.le_refl _) (Nat.le_refl _) ((Same.below hW).mono (Nat.zero_le _) hh)) hl0 hl1
  obtain ⟨a1, k1, rfl⟩ := hp.form
  unfold MobL.sz
  generalize x.flds.length = n1 at *
  clear hp hl hh hy
  by_cases h1 : l < n1
  · go_enter Try.func45, Try.ntmps45
    go_wp2_with (first | (go_at_call 21; refine (c1.out _ (below_1 _ _)).mono ?_; rintro e w1 ⟨⟨r, rfl, hr1, hr2⟩, hb1⟩; obtain rfl := hr1 h1))
    go_ret
    exact ⟨SzQ.neg h1, below_on2 (below_1 _ _) hb1⟩
  · go_enter Try.func45, Try.ntmps45
    go_wp2_with (first | (go_at_call 21; refine (c1.out _ (below_1 _ _)).mono ?_; rintro e w1 ⟨⟨r, rfl, hr1, hr2⟩, hb1⟩; obtain rfl := hr2 (by omega)))
    go_ret
    exact ⟨SzQ.pos (by omega) rfl, below_on2 (below_1 _ _) hb1⟩

set_option maxRecDepth 1000000 in
set_option maxHeartbeats 1000000 in
theorem szMobS_calls (v : Value) (xs : List MobL) (w : World) (own : Bool) (lo hi : Nat) (l : Int) (hh : hi ≤ w.heap.size) (ht : ListAt MobR 3 own lo hi w v xs) (hn : xs.length ≤ 9223372036854775807) (hl0 : 0 ≤ l) (hl1 : l ≤ 1048576) (hel : ∀ x ∈ xs, ElemSz 45 3 MobR MobL.sz x) :
    Calls Try.prog 32 #[v, .int .i64 l] w fun e w' => SzQ l (sumL MobL.sz xs) e ∧ Below w.heap.size w w' := by
  have hldH : Hid ((Try.prog.info? 86).map (·.size) = some 3) := by show (Try.prog.info? 86).map (·.size) = some 3; kernel_rfl
  obtain ⟨a, c, rfl⟩ := ht.form
  have helH : Hid (∀ x ∈ xs, ElemSz 45 3 MobR MobL.sz x) := hel
  have htH : Hid (∀ wr, Below w.heap.size w wr → ListAt MobR 3 own lo hi wr (.slice a xs.length c) xs) := fun wr hw => ht.kept MobR.stable (Nat.le_refl _) (Nat.le_refl _) ((Same.below hw).mono (Nat.zero_le _) hh)
  have hhH : Hid (hi ≤ w.heap.size) := hh
  clear ht hel hh
  by_cases hc : l < xs.length
  · go_enter Try.func32, Try.ntmps32
    go_wp2
    go_ret
    exact ⟨SzQ.neg (by unfold sumL; omega), Below.refl _ _⟩
  go_enter Try.func32, Try.ntmps32
  go_wp2
  go_loopw [1, 5] (fun q i wr => ∃ (m : Nat) (z : Int), m ≤ xs.length ∧ q = .int .i64 z ∧ 0 ≤ z ∧ z ≤ 1048576 ∧ Hid (z = l - (xs.length + ((xs.take m).map MobL.sz).sum : Nat)) ∧ i = .int .i64 m ∧ Hid (Below w.heap.size w wr)) (fun _ i _ => xs.length - (intOf i).toNat)
  case atStart => exact ⟨0, _, Nat.zero_le _, rfl, by omega, by omega, by simp [Hid], rfl, Below.refl _ _⟩
  case round =>
    obtain ⟨m, z, hm, rfl, hz0, hz1, hz, rfl, hB⟩ := hrel
    by_cases hlt : m < xs.length
    · obtain ⟨b, off, row, rfl, hbb, hrl, hrr, hrx⟩ := (htH.out wr hB.out).at m hlt
      have hlt' : (m : Int) < (xs.length : Int) := by omega
      have hcallH : Hid (Calls Try.prog 45 #[.agg row.toArray, .int .i64 z] wr fun e w' => SzQ z (MobL.sz xs[m]) e ∧ Below wr.heap.size wr w') := helH.out xs[m] (List.getElem_mem hlt) wr row own lo hi z (Nat.le_trans hhH.out hB.out.size) hrx hrl hz0 hz1
      have hrrH : Hid (wr.rangeAt b (off + m * 3) row) := hrr
      have hrlH : Hid (row.length = 3) := hrl
      have hst : Hid (((xs.take (m + 1)).map MobL.sz).sum = ((xs.take m).map MobL.sz).sum + MobL.sz xs[m]) := sum_take MobL.sz xs m hlt
      have hle : Hid (((xs.take (m + 1)).map MobL.sz).sum ≤ (xs.map MobL.sz).sum) := sum_take_le MobL.sz xs (m + 1)
      obtain ⟨n, hnn⟩ : ∃ n, n = MobL.sz xs[m] := ⟨_, rfl⟩
      rw [← hnn] at hcallH hst
      clear hrr hrl hrx hnn
      by_cases hcc : z < n
      · go_wp2_with (first
          | (refine wpList_load_mid rfl 86 _ rfl b (off + m * 3) (by first | rfl | (simp; done)) row _ hrrH.out Try.underlying86 rfl (by rw [hrlH.out]; exact hldH.out) ?_)
          | (go_at_call 45; refine hcallH.out.mono ?_; rintro e w2 ⟨⟨r, rfl, hr1, hr2⟩, hb2⟩; obtain rfl := hr1 hcc))
        go_ret
        have := hz.out; have := hst.out; have := hle.out
        exact ⟨SzQ.neg (by unfold sumL; omega), below_on2 hB.out hb2⟩
      · go_wp2_with (first
          | (refine wpList_load_mid rfl 86 _ rfl b (off + m * 3) (by first | rfl | (simp; done)) row _ hrrH.out Try.underlying86 rfl (by rw [hrlH.out]; exact hldH.out) ?_)
          | (go_at_call 45; refine hcallH.out.mono ?_; rintro e w2 ⟨⟨r, rfl, hr1, hr2⟩, hb2⟩; obtain rfl := hr2 (by omega)))
        go_roundw
        case rel =>
          have := hz.out; have := hst.out
          exact ⟨m + 1, _, by omega, rfl, by omega, by omega, (show _ = _ by omega), by go_num, below_on2 hB.out hb2⟩
        case measure => simp [intOf]; omega
    · go_wp2
      go_ret
      have h := hz.out
      rw [List.take_of_length_le (by omega)] at h
      exact ⟨SzQ.pos (by unfold sumL; omega) (by unfold sumL; omega), hB.out⟩

set_option maxRecDepth 1000000 in
set_option maxHeartbeats 4000000 in
theorem szMhp_calls (x : MhpL) (hy : x.upto) : ElemSz 14 4 MhpR MhpL.sz x := by
  intro w row own lo hi l hh hx hl hl0 hl1
  obtain ⟨p0, p1, p2, rfl, g0, g1, g2⟩ := hx
  obtain ⟨y0, y1, y2, y3⟩ := hy
  have c0 : Hid (∀ (l : Int) (W : World), Below w.heap.size w W → 0 ≤ l → l ≤ 1048576 → Calls Try.prog 32 #[p0, .int .i64 l] W fun e w' => SzQ l (sumL MobL.sz x.objs) e ∧ Below W.heap.size W w') := fun l W hW h0 h1 =>
    szMobS_calls p0 x.objs W own lo hi l (Nat.le_trans hh hW.size) (g0.kept MobR.stable (Nat.le_refl _) (Nat.le_refl _) ((Same.below hW).mono (Nat.zero_le _) hh)) y0 h0 h1 (fun z hz => szMob_calls z (y1 z hz))
  have c1 : Hid (∀ (l : Int) (W : World), Below w.heap.size w W → 0 ≤ l → l ≤ 1048576 → Calls Try.prog 21 #[p1, .int .i64 l] W fun e w' => SzQ l x.roots.length e ∧ Below W.heap.size W w') := fun l W hW h0 h1 =>
    szInts_calls x.roots y2 W p1 own lo hi l (Nat.le_trans hh hW.size) (g1.kept IntR.stable (Nat.le_refl _) (Nat.le_refl _) ((Same.below hW).mono (Nat.zero_le _) hh)) h0 h1
  have c2 : Hid (∀ (l : Int) (W : World), Below w.heap.size w W → 0 ≤ l → l ≤ 1048576 → Calls Try.prog 21 #[p2, .int .i64 l] W fun e w' => SzQ l x.row_.length e ∧ Below W.heap.size W w') := fun l W hW h0 h1 =>
    szInts_calls x.row_ y3 W p2 own lo hi l (Nat.le_trans hh hW.size) (g2.kept IntR.stable (Nat.le_refl _) (Nat.le_refl _) ((Same.below hW).mono (Nat.zero_le _) hh)) h0 h1
  obtain ⟨a0, k0, rfl⟩ := g0.form
  obtain ⟨a1, k1, rfl⟩ := g1.form
  obtain ⟨a2, k2, rfl⟩ := g2.form
  unfold MhpL.sz
  generalize sumL MobL.sz x.objs = n0 at *
  generalize x.objs.length = m0 at *
  generalize x.roots.length = n1 at *
  generalize x.row_.length = n2 at *
  generalize x.cycle = cy at *
  clear g0 g1 g2 hl hh y0 y1 y2 y3
  obtain ⟨W0, hW0⟩ : ∃ W0 : World, W0 = w.alloc (.cells #[.slice a0 m0 k0, .slice a1 n1 k1, .bool cy, .slice a2 n2 k2] 39) := ⟨_, rfl⟩
  have r0 : W0.rangeAt w.heap.size 0 [.slice a0 m0 k0, .slice a1 n1 k1, .bool cy, .slice a2 n2 k2] := by rw [hW0]; exact rangeAt_heap (heap_alloc_new w _)
  have hs0 : w.heap.size < W0.heap.size := by rw [hW0]; simp
  have hb0 : Hid (Below w.heap.size w W0) := by show Below _ _ _; rw [hW0]; exact below_1 _ _
  have hcl : Hid (∀ W, Below W0.heap.size W0 W → W.cell? ⟨w.heap.size, 0, none⟩ = some (.slice a0 m0 k0) ∧ W.cell? ⟨w.heap.size, 1, none⟩ = some (.slice a1 n1 k1) ∧ W.cell? ⟨w.heap.size, 3, none⟩ = some (.slice a2 n2 k2)) := fun W hW => ⟨(hW.cell (p := ⟨w.heap.size, 0, none⟩) hs0).trans (r0 0 _ rfl), (hW.cell (p := ⟨w.heap.size, 1, none⟩) hs0).trans (r0 1 _ rfl), (hW.cell (p := ⟨w.heap.size, 3, none⟩) hs0).trans (r0 3 _ rfl)⟩
  clear r0 hs0
  by_cases q0 : l < n0
  · go_enter Try.func14, Try.ntmps14
    go_upto_region 1 with fail
    rw [← hW0]
    clear hW0
    obtain ⟨j0, j1, j2⟩ := hcl.out W0 (Below.refl _ _)
    go_wp2_with fail
    clear j0 j1 j2
    refine (show Calls _ _ _ _ _ from c0.out _ _ hb0.out (by omega) (by omega)).mono ?_
    rintro e w1 ⟨⟨r, rfl, hr1, hr2⟩, hb1⟩
    have B0 : Hid (Below w.heap.size w w1) := below_on2 hb0.out hb1
    have D0 : Hid (Below W0.heap.size W0 w1) := hb1
    obtain rfl := hr1 (by omega)
    go_wp2
    go_ret
    exact ⟨SzQ.neg (by omega), B0.out⟩
  by_cases q1 : l - n0 < n1
  · go_enter Try.func14, Try.ntmps14
    go_upto_region 1 with fail
    rw [← hW0]
    clear hW0
    obtain ⟨j0, j1, j2⟩ := hcl.out W0 (Below.refl _ _)
    go_wp2_with fail
    clear j0 j1 j2
    refine (show Calls _ _ _ _ _ from c0.out _ _ hb0.out (by omega) (by omega)).mono ?_
    rintro e w1 ⟨⟨r, rfl, hr1, hr2⟩, hb1⟩
    have B0 : Hid (Below w.heap.size w w1) := below_on2 hb0.out hb1
    have D0 : Hid (Below W0.heap.size W0 w1) := hb1
    obtain rfl := hr2 (by omega)
    clear hr1 hr2 hb1
    obtain ⟨j0, j1, j2⟩ := hcl.out w1 (D0.out)
    go_wp2_with fail
    clear j0 j1 j2
    refine (show Calls _ _ _ _ _ from c1.out _ _ B0.out (by omega) (by omega)).mono ?_
    rintro e w2 ⟨⟨r, rfl, hr1, hr2⟩, hb1⟩
    have B1 : Hid (Below w.heap.size w w2) := below_on2 B0.out hb1
    have D1 : Hid (Below W0.heap.size W0 w2) := below_on2 D0.out hb1
    obtain rfl := hr1 (by omega)
    go_wp2
    go_ret
    exact ⟨SzQ.neg (by omega), B1.out⟩
  by_cases q2 : l - n0 - n1 < n2
  · go_enter Try.func14, Try.ntmps14
    go_upto_region 1 with fail
    rw [← hW0]
    clear hW0
    obtain ⟨j0, j1, j2⟩ := hcl.out W0 (Below.refl _ _)
    go_wp2_with fail
    clear j0 j1 j2
    refine (show Calls _ _ _ _ _ from c0.out _ _ hb0.out (by omega) (by omega)).mono ?_
    rintro e w1 ⟨⟨r, rfl, hr1, hr2⟩, hb1⟩
    have B0 : Hid (Below w.heap.size w w1) := below_on2 hb0.out hb1
    have D0 : Hid (Below W0.heap.size W0 w1) := hb1
    obtain rfl := hr2 (by omega)
    clear hr1 hr2 hb1
    obtain ⟨j0, j1, j2⟩ := hcl.out w1 (D0.out)
    go_wp2_with fail
    clear j0 j1 j2
    refine (show Calls _ _ _ _ _ from c1.out _ _ B0.out (by omega) (by omega)).mono ?_
    rintro e w2 ⟨⟨r, rfl, hr1, hr2⟩, hb1⟩
    have B1 : Hid (Below w.heap.size w w2) := below_on2 B0.out hb1
    have D1 : Hid (Below W0.heap.size W0 w2) := below_on2 D0.out hb1
    obtain rfl := hr2 (by omega)
    clear hr1 hr2 hb1
    obtain ⟨j0, j1, j2⟩ := hcl.out w2 (D1.out)
    go_wp2_with fail
    clear j0 j1 j2
    refine (show Calls _ _ _ _ _ from c2.out _ _ B1.out (by omega) (by omega)).mono ?_
    rintro e w3 ⟨⟨r, rfl, hr1, hr2⟩, hb1⟩
    have B2 : Hid (Below w.heap.size w w3) := below_on2 B1.out hb1
    have D2 : Hid (Below W0.heap.size W0 w3) := below_on2 D1.out hb1
    obtain rfl := hr1 (by omega)
    go_wp2
    go_ret
    exact ⟨SzQ.neg (by omega), B2.out⟩
  go_enter Try.func14, Try.ntmps14
  go_upto_region 1 with fail
  rw [← hW0]
  clear hW0
  obtain ⟨j0, j1, j2⟩ := hcl.out W0 (Below.refl _ _)
  go_wp2_with fail
  clear j0 j1 j2
  refine (show Calls _ _ _ _ _ from c0.out _ _ hb0.out (by omega) (by omega)).mono ?_
  rintro e w1 ⟨⟨r, rfl, hr1, hr2⟩, hb1⟩
  have B0 : Hid (Below w.heap.size w w1) := below_on2 hb0.out hb1
  have D0 : Hid (Below W0.heap.size W0 w1) := hb1
  obtain rfl := hr2 (by omega)
  clear hr1 hr2 hb1
  obtain ⟨j0, j1, j2⟩ := hcl.out w1 (D0.out)
  go_wp2_with fail
  clear j0 j1 j2
  refine (show Calls _ _ _ _ _ from c1.out _ _ B0.out (by omega) (by omega)).mono ?_
  rintro e w2 ⟨⟨r, rfl, hr1, hr2⟩, hb1⟩
  have B1 : Hid (Below w.heap.size w w2) := below_on2 B0.out hb1
  have D1 : Hid (Below W0.heap.size W0 w2) := below_on2 D0.out hb1
  obtain rfl := hr2 (by omega)
  clear hr1 hr2 hb1
  obtain ⟨j0, j1, j2⟩ := hcl.out w2 (D1.out)
  go_wp2_with fail
  clear j0 j1 j2
  refine (show Calls _ _ _ _ _ from c2.out _ _ B1.out (by omega) (by omega)).mono ?_
  rintro e w3 ⟨⟨r, rfl, hr1, hr2⟩, hb1⟩
  have B2 : Hid (Below w.heap.size w w3) := below_on2 B1.out hb1
  have D2 : Hid (Below W0.heap.size W0 w3) := below_on2 D1.out hb1
  obtain rfl := hr2 (by omega)
  clear hr1 hr2 hb1
  go_wp2
  go_ret
  exact ⟨SzQ.pos (by omega) (by omega), B2.out⟩
end Go.Proofs.Ytedpocgmfpaeeaa
