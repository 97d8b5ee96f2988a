/- The program's step: what is sent, what is acted. -/
import Derived.Test.YtknbchheoloaoaaGreatSoZ
namespace Go.Proofs.YtknbchheoloaoaaGreat
set_option linter.unusedVariables false
open Go.ChangeShapes Go.WideShapes Go.ChangeAt Go.RowKit

theorem momW_new {w : World} {ms : List Int} (hl : ms.length = 22) (t : TypeId) : MomW (w.alloc (.cells (MV ms).toArray t)) w.heap.size ms := by
 have e := heap_alloc_new w (.cells (MV ms).toArray t)
 refine ⟨fun j v hj => ?_, fun j hj => ?_, hl⟩
 ·simp only [World.cell?, e]
  simpa using hj
 ·refine ⟨?_, ?_⟩
  ·simp only [World.cell?, e]
   simp [MV, hl, hj]
  ·simp only [World.frozen?, e]; simp
set_option maxRecDepth 1000000 in
set_option maxHeartbeats 8000000 in
theorem sent_calls (x : LitL) (a : ActL) (g t p v : Nat) (ms : List Int) (ta : Option Addr) (tc : Nat) (w : World) (lo hi : Nat) (hh : hi ≤ w.heap.size) (hx : ListAt ThrR 1 true lo hi w (.slice ta x.thr.length tc) x.thr) (hg : g < w.heap.size) (hc : w.cell? ⟨g, 3, none⟩ = some (.slice ta x.thr.length tc)) (ht3 : t < 3) (hp4 : p ≤ 3) (ha : actAt x t p = some a) (hav : a.var = (v : Int)) (hv4 : v < 4) (hl : ms.length = 22) (h1 : ms[t]? = some ((p : Int) + 1)) (h2 : ms[3 + t]? = some (p : Int)) :
  Calls Tryz.prog 78 #[.pointer (some ⟨g, 0, none⟩), .agg (MV ms).toArray, .int .i64 (t : Int)] w fun e w' => ∃ ms', e = .returned (.agg (MV ms').toArray) ∧ ms'.length = 22 ∧ (∀ j, j < 6 → ms'[j]? = (ms.set (3 + t) ((p : Int) + 1))[j]?) ∧ Below w.heap.size w w' := by
 obtain ⟨b1, o1, len, uc, b2, o2, rfl, ht, hk, hkc, hb1, hA⟩ := actAt_of hx hh ha
 obtain ⟨gm, hgm⟩ : ∃ gm, gm = w.heap.size := ⟨_, rfl⟩
 obtain ⟨gr, hgr⟩ : ∃ gr, gr = w.heap.size + 1 := ⟨_, rfl⟩
 obtain ⟨W0, hW0⟩ : ∃ W0 : World, W0 = (w.alloc (.cells (MV ms).toArray 97)).alloc (.cells #[.int .i16 0, .int .i16 0, .int .i16 0, .int .i16 0, .int .i16 0, .int .i16 0, .int .i16 0, .int .i16 0, .int .i16 0, .int .i16 0, .int .i16 0, .int .i16 0, .int .i16 0, .int .i16 0, .int .i16 0, .int .i16 0, .int .i16 0, .int .i16 0, .int .i16 0, .int .i16 0, .int .i16 0, .int .i16 0] 97) := ⟨_, rfl⟩
 have hb0 : Hid (Below w.heap.size w W0) := by show Below _ _ _; rw [hW0]; exact below_on (below_1 _ _) (below_1 _ _)
 have hm0 : Hid (MomW W0 gm ms) := by show MomW _ _ _; rw [hW0, hgm]; exact (momW_new hl _).on (by simp) (below_1 _ _)
 have hth0 : Hid (W0.there gr 0 22) := by
  show World.there _ _ _ _
  have := there_heap (show W0.heap[gr]? = some (.cells #[.int .i16 0, .int .i16 0, .int .i16 0, .int .i16 0, .int .i16 0, .int .i16 0, .int .i16 0, .int .i16 0, .int .i16 0, .int .i16 0, .int .i16 0, .int .i16 0, .int .i16 0, .int .i16 0, .int .i16 0, .int .i16 0, .int .i16 0, .int .i16 0, .int .i16 0, .int .i16 0, .int .i16 0, .int .i16 0] 97) by rw [hW0, hgr]; simpa using heap_alloc_new (w.alloc (.cells (MV ms).toArray 97)) (.cells #[.int .i16 0, .int .i16 0, .int .i16 0, .int .i16 0, .int .i16 0, .int .i16 0, .int .i16 0, .int .i16 0, .int .i16 0, .int .i16 0, .int .i16 0, .int .i16 0, .int .i16 0, .int .i16 0, .int .i16 0, .int .i16 0, .int .i16 0, .int .i16 0, .int .i16 0, .int .i16 0, .int .i16 0, .int .i16 0] 97))
  exact this
 have hsz : Hid (gr < W0.heap.size ∧ gm < gr ∧ w.heap.size ≤ gm) := by show _ ∧ _; rw [hW0, hgr, hgm]; simp
 obtain ⟨z, hz⟩ : ∃ z, ms[6 + t * 4 + p]? = some z := ⟨_, List.getElem?_eq_getElem (by omega)⟩
 have hcell : Hid (∀ W, Below W0.heap.size W0 W → W.cell? ⟨g, 3, none⟩ = some (.slice (some ⟨b1, o1, none⟩) x.thr.length tc) ∧ W.cell? ⟨b1, o1 + t, none⟩ = some (.slice (some ⟨b2, o2, none⟩) len uc) ∧ W.cell? ⟨b2, o2 + p * 3 + 1, none⟩ = some (.int .i64 (v : Int)) ∧ W.cell? ⟨gm, 6 + t * 4 + p, none⟩ = some (.int .i16 z)) := fun W hW => by
  have hw := below_on hb0.out hW
  obtain ⟨c1, c2, c3, c4⟩ := hA W hw
  exact ⟨(hw.cell (p := ⟨g, 3, none⟩) hg).trans hc, by simpa using c1, by rw [← hav]; simpa using c3, (hm0.out.on (by have := hsz.out; omega) hW).at hz⟩
 have hmw : Hid (∀ W, Below W0.heap.size W0 W → MomW W gm ms ∧ W.there gr 0 22 ∧ Below w.heap.size w W ∧ gr < W.heap.size) := fun W hW => by
  have hs := hsz.out
  refine ⟨hm0.out.on (by omega) hW, fun j hj => ?_, below_on hb0.out hW, by have := hW.size; omega⟩
  rw [hW.cell (p := ⟨gr, 0 + j, none⟩) hs.1, hW.frozen (p := ⟨gr, 0 + j, none⟩) hs.1]
  exact hth0.out j hj
 have p1 : (t : Int) < x.thr.length := by omega
 have p2 : (p : Int) < len := by omega
 have p3 : (3 + (t : Int)) < 22 := by omega
 have p4 : (p : Int) ≤ 3 := by omega
 have p5 : (18 + (v : Int)) < 22 := by omega
 have hw16 : IntKind.i16.wrap ((p : Int) + 1) = (p : Int) + 1 := by simp only [IntKind.wrap, IntKind.bits, IntKind.signed]; simp; split <;> omega
 have hun : Hid (Calls Tryz.prog 86 #[.pointer (some ⟨gm, 0, none⟩), .int .i64 (t : Int)] W0 fun e w' => e = .returned (.int .i64 (p : Int)) ∧ w' = W0) := unsent_calls gm t p W0 ht3 (by omega) (hm0.out.at h2)
 have hvl : Hid (∀ W, Calls Tryz.prog 75 #[.pointer (some ⟨gm, 0, none⟩), .int .i64 (t : Int), .int .i64 (p : Int)] W fun e w' => e = .returned (.pointer (some ⟨gm, 6 + t * 4 + p, none⟩)) ∧ w' = W) := fun W => value_calls gm t p W ht3 (by omega)
 clear hA hx ha hc hm0 hth0
 go_enter Tryz.func78, Tryz.ntmps78
 go_wp2_with fail
 rw [← hW0, ← hgr, ← hgm]
 clear hW0 hgm hgr
 refine hun.out.mono ?_
 rintro e w2 ⟨rfl, rfl⟩
 rename World => W0
 go_wp2_with fail
 refine wp_region_chain (by kernel_rfl) (fun vs => { tmps := #[.pointer (some ⟨g, 0, none⟩), .agg (MV ms).toArray, .int .i64 (t : Int), undef, .pointer (some ⟨gm, 0, none⟩), undef, .pointer (some ⟨gr, 0, none⟩), .int .i64 (p : Int), .int .i64 (t : Int), .int .i64 (p : Int), vs 0, vs 1, vs 2, vs 3, vs 4, vs 5, vs 6, vs 7, vs 8, vs 9, vs 10, vs 11, vs 12, vs 13, vs 14, vs 15, vs 16, vs 17, vs 18, undef, undef, undef, undef, undef, undef, undef, undef, undef, undef], defers := [] }) [] (lv1 [.pointer (some ⟨g, 0, none⟩), .pointer (some ⟨g, 0, none⟩), .pointer (some ⟨g, 0, none⟩), .pointer (some ⟨g, 3, none⟩), .slice (some ⟨b1, o1, none⟩) x.thr.length tc, .int .i64 (t : Int), .pointer (some ⟨b1, o1 + t, none⟩), .slice (some ⟨b2, o2, none⟩) len uc, .int .i64 (p : Int), .pointer (some ⟨b2, o2 + p * 3, none⟩), .pointer (some ⟨b2, o2 + p * 3 + 1, none⟩), .int .i64 (v : Int), .int .i64 (18 + (v : Int)), .int .i64 (t : Int), .int .i64 (p : Int), .pointer (some ⟨gm, 6 + t * 4 + p, none⟩), .pointer (some ⟨gm, 6 + t * 4 + p, none⟩), .int .i16 z, .pointer (some ⟨gm, 18 + v, none⟩)]) (fun _ _ W => Below W0.heap.size W0 W) (fun i => undef) rfl (by kernel_rfl) ?_ (fun _ _ _ _ _ _ h => h) (allAt_all ⟨?_, ?_, ?_, ?_, ?_, ?_, ?_, ?_, ?_, ?_, ?_, ?_, ?_, ?_, ?_, ?_, ?_, ?_, ?_, ?_, trivial⟩) ?_ ?_
 case refine_1 => exact Below.drew (Below.refl _ _)
 case refine_2 =>
  intro _ _ k vs W hB hv
  clear hv
  go_wp2
  exact PurePost.mk' (.pointer (some ⟨g, 0, none⟩)) (by rfl) rfl
 case refine_3 =>
  intro _ _ k vs W hB hv
  have e0 : vs 0 = .pointer (some ⟨g, 0, none⟩) := hv ⟨0, .data⟩ (by simp) rfl (by decide)
  clear hv
  simp only [e0]
  go_wp2
  exact PurePost.mk' (.pointer (some ⟨g, 0, none⟩)) (by first | (rw [← e0]; rfl) | (simp [upd, e0])) rfl
 case refine_4 =>
  intro _ _ k vs W hB hv
  have e1 : vs 1 = .pointer (some ⟨g, 0, none⟩) := hv ⟨1, .data⟩ (by simp) rfl (by decide)
  clear hv
  simp only [e1]
  go_wp2
  exact PurePost.mk' (.pointer (some ⟨g, 0, none⟩)) (by first | (rw [← e1]; rfl) | (simp [upd, e1])) rfl
 case refine_5 =>
  intro _ _ k vs W hB hv
  have e2 : vs 2 = .pointer (some ⟨g, 0, none⟩) := hv ⟨2, .data⟩ (by simp) rfl (by decide)
  clear hv
  simp only [e2]
  go_wp2
  exact PurePost.mk' (.pointer (some ⟨g, 3, none⟩)) (by first | (rw [← e2]; rfl) | (simp [upd, e2])) rfl
 case refine_6 =>
  intro _ _ k vs W hB hv
  have e3 : vs 3 = .pointer (some ⟨g, 3, none⟩) := hv ⟨3, .data⟩ (by simp) rfl (by decide)
  obtain ⟨c3, c1, a1, u1⟩ := hcell.out W hB
  clear hv
  simp only [e3]
  go_wp2
  exact PurePost.mk' (.slice (some ⟨b1, o1, none⟩) x.thr.length tc) (by first | (rw [← e3]; rfl) | (simp [upd, e3])) rfl
 case refine_7 =>
  intro _ _ k vs W hB hv
  clear hv
  go_wp2
  exact PurePost.mk' (.int .i64 (t : Int)) (by rfl) rfl
 case refine_8 =>
  intro _ _ k vs W hB hv
  have e4 : vs 4 = .slice (some ⟨b1, o1, none⟩) x.thr.length tc := hv ⟨4, .data⟩ (by simp) rfl (by decide)
  have e5 : vs 5 = .int .i64 (t : Int) := hv ⟨5, .data⟩ (by simp) rfl (by decide)
  clear hv
  simp only [e4, e5]
  go_wp2
  exact PurePost.mk' (.pointer (some ⟨b1, o1 + t, none⟩)) (by first | (rw [← e4, ← e5]; rfl) | (simp [upd, e4, e5])) rfl
 case refine_9 =>
  intro _ _ k vs W hB hv
  have e6 : vs 6 = .pointer (some ⟨b1, o1 + t, none⟩) := hv ⟨6, .data⟩ (by simp) rfl (by decide)
  obtain ⟨c3, c1, a1, u1⟩ := hcell.out W hB
  clear hv
  simp only [e6]
  go_wp2
  exact PurePost.mk' (.slice (some ⟨b2, o2, none⟩) len uc) (by first | (rw [← e6]; rfl) | (simp [upd, e6])) rfl
 case refine_10 =>
  intro _ _ k vs W hB hv
  clear hv
  go_wp2
  exact PurePost.mk' (.int .i64 (p : Int)) (by rfl) rfl
 case refine_11 =>
  intro _ _ k vs W hB hv
  have e7 : vs 7 = .slice (some ⟨b2, o2, none⟩) len uc := hv ⟨7, .data⟩ (by simp) rfl (by decide)
  have e8 : vs 8 = .int .i64 (p : Int) := hv ⟨8, .data⟩ (by simp) rfl (by decide)
  clear hv
  simp only [e7, e8]
  go_wp2
  exact PurePost.mk' (.pointer (some ⟨b2, o2 + p * 3, none⟩)) (by first | (rw [← e7, ← e8]; rfl) | (simp [upd, e7, e8])) rfl
 case refine_12 =>
  intro _ _ k vs W hB hv
  have e9 : vs 9 = .pointer (some ⟨b2, o2 + p * 3, none⟩) := hv ⟨9, .data⟩ (by simp) rfl (by decide)
  clear hv
  simp only [e9]
  go_wp2
  exact PurePost.mk' (.pointer (some ⟨b2, o2 + p * 3 + 1, none⟩)) (by first | (rw [← e9]; rfl) | (simp [upd, e9])) rfl
 case refine_13 =>
  intro _ _ k vs W hB hv
  have e10 : vs 10 = .pointer (some ⟨b2, o2 + p * 3 + 1, none⟩) := hv ⟨10, .data⟩ (by simp) rfl (by decide)
  obtain ⟨c3, c1, a1, u1⟩ := hcell.out W hB
  clear hv
  simp only [e10]
  go_wp2
  exact PurePost.mk' (.int .i64 (v : Int)) (by first | (rw [← e10]; rfl) | (simp [upd, e10])) rfl
 case refine_14 =>
  intro _ _ k vs W hB hv
  have e11 : vs 11 = .int .i64 (v : Int) := hv ⟨11, .data⟩ (by simp) rfl (by decide)
  clear hv
  simp only [e11]
  go_wp2
  exact PurePost.mk' (.int .i64 (18 + (v : Int))) (by first | (rw [← e11]; rfl) | (simp [upd, e11])) rfl
 case refine_15 =>
  intro _ _ k vs W hB hv
  clear hv
  go_wp2
  exact PurePost.mk' (.int .i64 (t : Int)) (by rfl) rfl
 case refine_16 =>
  intro _ _ k vs W hB hv
  clear hv
  go_wp2
  exact PurePost.mk' (.int .i64 (p : Int)) (by rfl) rfl
 case refine_17 =>
  intro _ _ k vs W hB hv
  have e13 : vs 13 = .int .i64 (t : Int) := hv ⟨13, .data⟩ (by simp) rfl (by decide)
  have e14 : vs 14 = .int .i64 (p : Int) := hv ⟨14, .data⟩ (by simp) rfl (by decide)
  have hcl : Hid (Calls Tryz.prog 75 #[.pointer (some ⟨gm, 0, none⟩), .int .i64 (t : Int), .int .i64 (p : Int)] W fun e w' => e = .returned (.pointer (some ⟨gm, 6 + t * 4 + p, none⟩)) ∧ w' = W) := hvl.out W
  clear hv
  simp only [e13, e14]
  go_wp2_with (go_at_call 75; refine (show Calls _ _ _ _ _ from hcl.out).mono ?_; rintro e w2 ⟨rfl, rfl⟩)
  exact PurePost.mk' (.pointer (some ⟨gm, 6 + t * 4 + p, none⟩)) (by first | (rw [← e13, ← e14]; rfl) | (simp [upd, e13, e14])) rfl
 case refine_18 =>
  intro _ _ k vs W hB hv
  have e15 : vs 15 = .pointer (some ⟨gm, 6 + t * 4 + p, none⟩) := hv ⟨15, .data⟩ (by simp) rfl (by decide)
  clear hv
  simp only [e15]
  go_wp2
  exact PurePost.mk' (.pointer (some ⟨gm, 6 + t * 4 + p, none⟩)) (by first | (rw [← e15]; rfl) | (simp [upd, e15])) rfl
 case refine_19 =>
  intro _ _ k vs W hB hv
  have e16 : vs 16 = .pointer (some ⟨gm, 6 + t * 4 + p, none⟩) := hv ⟨16, .data⟩ (by simp) rfl (by decide)
  obtain ⟨c3, c1, a1, u1⟩ := hcell.out W hB
  clear hv
  simp only [e16]
  go_wp2
  exact PurePost.mk' (.int .i16 z) (by first | (rw [← e16]; rfl) | (simp [upd, e16])) rfl
 case refine_20 =>
  intro _ _ k vs W hB hv
  have e12 : vs 12 = .int .i64 (18 + (v : Int)) := hv ⟨12, .data⟩ (by simp) rfl (by decide)
  clear hv
  simp only [e12]
  go_wp2
  exact PurePost.mk' (.pointer (some ⟨gm, 18 + v, none⟩)) (by first | (rw [← e12]; rfl) | (simp [upd, e12])) rfl
 case refine_21 => exact fun _ h => absurd h (by simp)
 case refine_22 =>
  intro k q o hq
  simp at hq
 case refine_23 =>
  intro o ho vs W hB hv
  obtain rfl := Option.some.inj ho
  have e0 : vs 0 = .pointer (some ⟨g, 0, none⟩) := hv 0 (by simp) (by simp)
  have e1 : vs 1 = .pointer (some ⟨g, 0, none⟩) := hv 1 (by simp) (by simp)
  have e2 : vs 2 = .pointer (some ⟨g, 0, none⟩) := hv 2 (by simp) (by simp)
  have e3 : vs 3 = .pointer (some ⟨g, 3, none⟩) := hv 3 (by simp) (by simp)
  have e4 : vs 4 = .slice (some ⟨b1, o1, none⟩) x.thr.length tc := hv 4 (by simp) (by simp)
  have e5 : vs 5 = .int .i64 (t : Int) := hv 5 (by simp) (by simp)
  have e6 : vs 6 = .pointer (some ⟨b1, o1 + t, none⟩) := hv 6 (by simp) (by simp)
  have e7 : vs 7 = .slice (some ⟨b2, o2, none⟩) len uc := hv 7 (by simp) (by simp)
  have e8 : vs 8 = .int .i64 (p : Int) := hv 8 (by simp) (by simp)
  have e9 : vs 9 = .pointer (some ⟨b2, o2 + p * 3, none⟩) := hv 9 (by simp) (by simp)
  have e10 : vs 10 = .pointer (some ⟨b2, o2 + p * 3 + 1, none⟩) := hv 10 (by simp) (by simp)
  have e11 : vs 11 = .int .i64 (v : Int) := hv 11 (by simp) (by simp)
  have e12 : vs 12 = .int .i64 (18 + (v : Int)) := hv 12 (by simp) (by simp)
  have e13 : vs 13 = .int .i64 (t : Int) := hv 13 (by simp) (by simp)
  have e14 : vs 14 = .int .i64 (p : Int) := hv 14 (by simp) (by simp)
  have e15 : vs 15 = .pointer (some ⟨gm, 6 + t * 4 + p, none⟩) := hv 15 (by simp) (by simp)
  have e16 : vs 16 = .pointer (some ⟨gm, 6 + t * 4 + p, none⟩) := hv 16 (by simp) (by simp)
  have e17 : vs 17 = .int .i16 z := hv 17 (by simp) (by simp)
  have e18 : vs 18 = .pointer (some ⟨gm, 18 + v, none⟩) := hv 18 (by simp) (by simp)
  obtain ⟨hmW, hthW, hbW, hgW⟩ := hmw.out W hB
  have u1 := hmW.at (List.getElem?_eq_getElem (show 18 + v < ms.length by omega))
  have u2 := hmW.fr (show 18 + v < 22 by omega)
  clear hv
  simp only [e0, e1, e2, e3, e4, e5, e6, e7, e8, e9, e10, e11, e12, e13, e14, e15, e16, e17, e18]
  clear e0 e1 e2 e3 e4 e5 e6 e7 e8 e9 e10 e11 e12 e13 e14 e15 e16 e17 e18
  go_upto_region 3 with (fail)
  have hm2 : Hid (MomW (W.setCell ⟨gm, 18 + v, none⟩ (.int .i16 z)) gm (ms.set (18 + v) z)) := hmW.set (18 + v) (by omega) z
  have ht2 : Hid ((W.setCell ⟨gm, 18 + v, none⟩ (.int .i16 z)).there gr 0 22) := World.there_setCells hthW gm (18 + v) [.int .i16 z]
  have hb2 : Hid (Below w.heap.size w (W.setCell ⟨gm, 18 + v, none⟩ (.int .i16 z))) := hbW.setCell (p := ⟨gm, 18 + v, none⟩) hsz.out.2.2 _
  have hg2 : Hid (gr < (W.setCell ⟨gm, 18 + v, none⟩ (.int .i16 z)).heap.size) := by show _ < _; rw [show (W.setCell ⟨gm, 18 + v, none⟩ (.int .i16 z)).heap.size = W.heap.size by simp [World.setCell]]; exact hgW
  clear u1 u2 hmW hthW hbW hgW hB hcell hmw hvl hun
  generalize W.setCell ⟨gm, 18 + v, none⟩ (.int .i16 z) = W2 at *
  have k2 : (ms.set (18 + v) z)[3 + t]? = some (p : Int) := by rw [List.getElem?_set_ne (by omega)]; exact h2
  have u3 := hm2.out.at k2
  have u4 := hm2.out.fr (show 3 + t < 22 by omega)
  go_upto_region 4 with (fail)
  have hm3 : Hid (MomW (W2.setCell ⟨gm, 3 + t, none⟩ (.int .i16 ((p : Int) + 1))) gm ((ms.set (18 + v) z).set (3 + t) ((p : Int) + 1))) := hm2.out.set (3 + t) (by omega) _
  have ht3' : Hid ((W2.setCell ⟨gm, 3 + t, none⟩ (.int .i16 ((p : Int) + 1))).there gr 0 22) := World.there_setCells ht2.out gm (3 + t) [.int .i16 ((p : Int) + 1)]
  have hb3 : Hid (Below w.heap.size w (W2.setCell ⟨gm, 3 + t, none⟩ (.int .i16 ((p : Int) + 1)))) := hb2.out.setCell (p := ⟨gm, 3 + t, none⟩) hsz.out.2.2 _
  have hg3 : Hid (gr < (W2.setCell ⟨gm, 3 + t, none⟩ (.int .i16 ((p : Int) + 1))).heap.size) := by show _ < _; rw [show (W2.setCell ⟨gm, 3 + t, none⟩ (.int .i16 ((p : Int) + 1))).heap.size = W2.heap.size by simp [World.setCell]]; exact hg2.out
  clear u3 u4 hm2 ht2 hb2 hg2
  generalize W2.setCell ⟨gm, 3 + t, none⟩ (.int .i16 ((p : Int) + 1)) = W3 at *
  obtain ⟨ms3, hms3⟩ : ∃ ms3, ms3 = (ms.set (18 + v) z).set (3 + t) ((p : Int) + 1) := ⟨_, rfl⟩
  have hfirst : Hid (ms3.length = 22 ∧ (∀ j, j < 6 → ms3[j]? = (ms.set (3 + t) ((p : Int) + 1))[j]?)) := by
   refine ⟨by rw [hms3]; simp [hl], fun j hj => ?_⟩
   rw [hms3]
   by_cases e : 3 + t = j
   ·subst e; rw [List.getElem?_set_self (by simp; omega), List.getElem?_set_self (by omega)]
   ·rw [List.getElem?_set_ne e, List.getElem?_set_ne e, List.getElem?_set_ne (by omega)]
  have k3 : ms3[t]? = some ((p + 1 : Nat) : Int) := by rw [hms3, List.getElem?_set_ne (by omega), List.getElem?_set_ne (by omega), h1]; rfl
  have k4 : ms3[3 + t]? = some ((p + 1 : Nat) : Int) := by rw [hms3, List.getElem?_set_self (by simp; omega)]; rfl
  rw [← hms3] at hm3
  have hps : Hid (Calls Tryz.prog 79 #[.pointer (some ⟨g, 0, none⟩), .pointer (some ⟨gm, 0, none⟩), .int .i64 (t : Int)] W3 fun e w' => e = .returned (.tuple #[]) ∧ Below W3.heap.size W3 w') := passNone_calls g gm t (p + 1) ms3 W3 (by have := hg3.out; have := hsz.out; omega) ht3 (by omega) hm3.out k3 k4
  clear k2 k3 k4 hms3 hz
  go_wp2_with fail
  refine hps.out.mono ?_
  rintro e W4 ⟨rfl, hB4⟩
  have hm4 : Hid (MomW W4 gm ms3) := hm3.out.on (by have := hg3.out; have := hsz.out; omega) hB4
  have ht4 : Hid (W4.there gr 0 22) := fun j hj => by rw [hB4.cell (p := ⟨gr, 0 + j, none⟩) hg3.out, hB4.frozen (p := ⟨gr, 0 + j, none⟩) hg3.out]; exact ht3'.out j hj
  have hb4 : Hid (Below w.heap.size w W4) := below_on hb3.out hB4
  have hsg : Hid (w.heap.size ≤ gr) := by have := hsz.out; show _ ≤ _; omega
  clear hm3 ht3' hb3 hg3 hB4 hps
  go_wp2_with (first | (refine wpList_load_mid rfl 97 _ rfl gm 0 rfl (MV ms3) _ hm4.out.row Tryz.underlying97 rfl (by rw [show (MV ms3).length = 22 by simp [MV, hfirst.out.1]]; kernel_rfl) ?_) | (refine wpList_store_mid rfl 97 _ _ rfl gr 0 (MV ms3).toArray rfl rfl (by rw [show (MV ms3).toArray.size = 22 by simp [MV, hfirst.out.1]]; exact ht4.out) (by rw [show (MV ms3).toArray.size = 22 by simp [MV, hfirst.out.1]]; kernel_rfl) (all_oneCell_toArray (fun v hv => by simp only [MV, List.mem_map] at hv; obtain ⟨q, _, rfl⟩ := hv; rfl)) ?_))
  refine bodyPost_ret (v := .agg (MV ms3).toArray) (results_cell_mid rfl _ _ gr (MV ms3) _ rfl (World.rangeAt_setCells_same W4 gr 0 (MV ms3) (by rw [show (MV ms3).length = 22 by simp [MV, hfirst.out.1]]; exact ht4.out)) Tryz.underlying97 rfl (by rw [show (MV ms3).length = 22 by simp [MV, hfirst.out.1]]; kernel_rfl)) rfl ⟨ms3, rfl, hfirst.out.1, hfirst.out.2, below_setCells gr hsg.out (MV ms3) 0 W4 hb4.out⟩
end Go.Proofs.YtknbchheoloaoaaGreat
