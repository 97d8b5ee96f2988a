/- The program's step: what is acted. -/
import Derived.Test.YtknbchheoloaoaaGreatSaA
namespace Go.Proofs.YtknbchheoloaoaaGreat
set_option linter.unusedVariables false
open Go.ChangeShapes Go.WideShapes Go.ChangeAt Go.RowKit

theorem first6 {ms : List Int} {t p : Nat} (ht3 : t < 3) (j : Nat) (hj : 6 ≤ j) (z : Int) : ∀ i, i < 6 → (((ms.set j z).set t ((p : Int) + 1)).set (3 + t) ((p : Int) + 1))[i]? = ((ms.set t ((p : Int) + 1)).set (3 + t) ((p : Int) + 1))[i]? := fun i hi => by
 have e1 : (ms.set j z)[i]? = ms[i]? := List.getElem?_set_ne (by omega)
 simp only [List.getElem?_set, e1, List.length_set]
structure AcdW (w V : World) (gm gr ga : Nat) (ms : List Int) (K var nn : Int) : Prop where
 mom : MomW V gm ms
 th : V.there gr 0 22
 q0 : V.cell? ⟨ga, 0, none⟩ = some (.int .i64 K)
 q1 : V.cell? ⟨ga, 1, none⟩ = some (.int .i64 var)
 q2 : V.cell? ⟨ga, 2, none⟩ = some (.int .i64 nn)
 hb : Below w.heap.size w V
 sz : w.heap.size ≤ gm ∧ gm < gr ∧ gr < ga ∧ ga < V.heap.size
theorem AcdW.grown {w V V' : World} {gm gr ga : Nat} {ms ms' : List Int} {K var nn : Int} (h : AcdW w V gm gr ga ms K var nn) (hg : V.grownBy V' (some gm)) (hm : MomW V' gm ms') : AcdW w V' gm gr ga ms' K var nn := by
 obtain ⟨s1, s2, s3, s4⟩ := h.sz
 have hne : ∀ k, k ≠ gm → some k ≠ some gm := fun k e q => e (by cases q; rfl)
 refine ⟨hm, fun j hj => ?_, hg.cell h.q0 (hne _ (by show ga ≠ gm; omega)), hg.cell h.q1 (hne _ (by show ga ≠ gm; omega)), hg.cell h.q2 (hne _ (by show ga ≠ gm; omega)), h.hb.grown hg h.hb.size (fun k e => by cases e; exact s1), ⟨s1, s2, s3, Nat.lt_of_lt_of_le s4 hg.size⟩⟩
 have e := hg.block gr (by omega) (hne _ (by omega))
 rw [World.cell?_of_block (w := V) (a := ⟨gr, 0 + j, none⟩) e, World.frozen?_of_block (w := V) (a := ⟨gr, 0 + j, none⟩) e]
 exact h.th j hj
theorem AcdW.on {w V V' : World} {gm gr ga : Nat} {ms : List Int} {K var nn : Int} (h : AcdW w V gm gr ga ms K var nn) (hb : Below V.heap.size V V') : AcdW w V' gm gr ga ms K var nn :=
 h.grown ⟨hb.os, hb.tape, hb.output, hb.size, fun k hk _ => hb.block k hk⟩ (h.mom.on (by have := h.sz; omega) hb)
theorem AcdW.set {w V : World} {gm gr ga : Nat} {ms : List Int} {K var nn : Int} (h : AcdW w V gm gr ga ms K var nn) (j : Nat) (hj : j < 22) (z : Int) : AcdW w (V.setCell ⟨gm, j, none⟩ (.int .i16 z)) gm gr ga (ms.set j z) K var nn :=
 h.grown ⟨rfl, rfl, rfl, by simp [World.setCell], fun k hk hne => Below.heap_setCell _ _ _ _ (fun e => hne (by rw [e]))⟩ (h.mom.set j hj z)

set_option maxRecDepth 1000000 in
set_option maxHeartbeats 8000000 in
theorem acted_read (x : LitL) (g t p : Nat) (v : Nat) (n : Int) (hv4 : v < 4) (ms : List Int) (ta : Option Addr) (tc : Nat) (w : World) (lo hi : Nat) (hh : hi ≤ w.heap.size) (hx : ListAt ThrR 1 true lo hi w (.slice ta x.thr.length tc) x.thr) (hg : g < w.heap.size) (hc : w.rangeAt g 0 [.int .i64 x.vars, .int .i64 x.vol, .int .i64 x.locks, .slice ta x.thr.length tc, .bool false]) (ht3 : t < 3) (hp4 : p ≤ 3) (ha : actAt x t p = some ⟨1, (v : Int), n⟩) (hl : ms.length = 22) (h1 : ms[t]? = some (p : Int)) (h2 : ms[3 + t]? = some (p : Int)) :
  Calls Tryz.prog 52 #[.pointer (some ⟨g, 0, none⟩), .agg (MV ms).toArray, .int .i64 (t : Int)] w fun e w' => ∃ ms', e = .returned (.agg (MV ms').toArray) ∧ ms'.length = 22 ∧ (∀ j, j < 6 → ms'[j]? = ((ms.set t ((p : Int) + 1)).set (3 + t) ((p : Int) + 1))[j]?) ∧ Below w.heap.size w w' := by
 obtain ⟨b1, o1, len, uc, b2, o2, rfl, ht, hk, hkc, hb1, hA⟩ := actAt_of hx hh ha
 have hac : Hid (actAt x t p = some ⟨1, (v : Int), n⟩) := ha
 have hpl : Hid (p ≤ (x.thr[t]).length) := by
  show _ ≤ _
  unfold actAt at ha
  rw [List.getElem?_eq_getElem ht] at ha
  have := (List.getElem?_eq_some_iff.1 ha).1
  omega
 obtain ⟨gm, hgm⟩ : ∃ gm, gm = w.heap.size := ⟨_, rfl⟩
 obtain ⟨gr, hgr⟩ : ∃ gr, gr = w.heap.size + 1 := ⟨_, rfl⟩
 obtain ⟨W0, hW0⟩ : ∃ W0 : World, W0 = (w.alloc (.cells (MV ms).toArray 97)).alloc (.cells #[.int .i16 0, .int .i16 0, .int .i16 0, .int .i16 0, .int .i16 0, .int .i16 0, .int .i16 0, .int .i16 0, .int .i16 0, .int .i16 0, .int .i16 0, .int .i16 0, .int .i16 0, .int .i16 0, .int .i16 0, .int .i16 0, .int .i16 0, .int .i16 0, .int .i16 0, .int .i16 0, .int .i16 0, .int .i16 0] 97) := ⟨_, rfl⟩
 have hb0 : Hid (Below w.heap.size w W0) := by show Below _ _ _; rw [hW0]; exact below_on (below_1 _ _) (below_1 _ _)
 have hm0 : Hid (MomW W0 gm ms) := by show MomW _ _ _; rw [hW0, hgm]; exact (momW_new hl _).on (by simp) (below_1 _ _)
 have hth0 : Hid (W0.there gr 0 22) := by
  show World.there _ _ _ _
  have := there_heap (show W0.heap[gr]? = some (.cells #[.int .i16 0, .int .i16 0, .int .i16 0, .int .i16 0, .int .i16 0, .int .i16 0, .int .i16 0, .int .i16 0, .int .i16 0, .int .i16 0, .int .i16 0, .int .i16 0, .int .i16 0, .int .i16 0, .int .i16 0, .int .i16 0, .int .i16 0, .int .i16 0, .int .i16 0, .int .i16 0, .int .i16 0, .int .i16 0] 97) by rw [hW0, hgr]; simpa using heap_alloc_new (w.alloc (.cells (MV ms).toArray 97)) (.cells #[.int .i16 0, .int .i16 0, .int .i16 0, .int .i16 0, .int .i16 0, .int .i16 0, .int .i16 0, .int .i16 0, .int .i16 0, .int .i16 0, .int .i16 0, .int .i16 0, .int .i16 0, .int .i16 0, .int .i16 0, .int .i16 0, .int .i16 0, .int .i16 0, .int .i16 0, .int .i16 0, .int .i16 0, .int .i16 0] 97))
  exact this
 have hsz : Hid (gr + 1 = W0.heap.size ∧ gm < gr ∧ w.heap.size = gm) := by show _ ∧ _; rw [hW0, hgr, hgm]; simp
 have hxk : Hid (∀ W, Below w.heap.size w W → hi ≤ W.heap.size ∧ ListAt ThrR 1 true lo hi W (.slice (some ⟨b1, o1, none⟩) x.thr.length tc) x.thr ∧ g < W.heap.size ∧ W.cell? ⟨g, 0, none⟩ = some (.int .i64 x.vars) ∧ W.cell? ⟨g, 1, none⟩ = some (.int .i64 x.vol) ∧ W.cell? ⟨g, 2, none⟩ = some (.int .i64 x.locks) ∧ W.cell? ⟨g, 3, none⟩ = some (.slice (some ⟨b1, o1, none⟩) x.thr.length tc) ∧ W.cell? ⟨g, 4, none⟩ = some (.bool false)) := fun W hW => by
  have := hW.size
  exact ⟨by omega, hx.kept ThrR.stable (Nat.le_refl _) (Nat.le_refl _) ((Same.below hW).mono (Nat.zero_le _) hh), by omega, (hW.cell (p := ⟨g, 0, none⟩) hg).trans (hc 0 _ rfl), (hW.cell (p := ⟨g, 1, none⟩) hg).trans (hc 1 _ rfl), (hW.cell (p := ⟨g, 2, none⟩) hg).trans (hc 2 _ rfl), (hW.cell (p := ⟨g, 3, none⟩) hg).trans (hc 3 _ rfl), (hW.cell (p := ⟨g, 4, none⟩) hg).trans (hc 4 _ rfl)⟩
 obtain ⟨c1, c2, c3, c4⟩ := hA W0 hb0.out
 have cg := (hxk.out W0 hb0.out).2.2.2.2.2.2.1
 have hnx : Hid (Calls Tryz.prog 51 #[.pointer (some ⟨gm, 0, none⟩), .int .i64 (t : Int)] W0 fun e w' => e = .returned (.int .i64 (p : Int)) ∧ w' = W0) := next_calls gm t p W0 ht3 (by omega) (hm0.out.at h1)
 have p1 : (t : Int) < x.thr.length := by omega
 have p2 : (p : Int) < len := by omega
 have p3 : (3 + (t : Int)) < 22 := by omega
 have p4 : (p : Int) ≤ 3 := by omega
 have p6 : (t : Int) < 22 := by omega
 have hw16 : IntKind.i16.wrap ((p : Int) + 1) = (p : Int) + 1 := by simp only [IntKind.wrap, IntKind.bits, IntKind.signed]; simp; split <;> omega
 clear hA hx ha hc
 go_enter Tryz.func52, Tryz.ntmps52
 go_wp2_with fail
 rw [← hW0, ← hgr, ← hgm]
 clear hW0 hgm hgr
 refine hnx.out.mono ?_
 rintro e w2 ⟨rfl, rfl⟩
 rename World => W0
 go_upto_region 3 with (fail)
 have hS : Hid (AcdW w (W0.alloc (.cells #[.int .i64 1, .int .i64 (v : Int), .int .i64 n] 60)) gm gr W0.heap.size ms 1 (v : Int) n) := by
  have e := heap_alloc_new W0 (.cells #[.int .i64 1, .int .i64 (v : Int), .int .i64 n] 60)
  have hr := rangeAt_heap e
  have hs := hsz.out
  refine ⟨hm0.out.on (by omega) (below_1 _ _), fun j hj => ?_, by simp, by simp, by simp, below_on hb0.out (below_1 _ _), ⟨by omega, by omega, by omega, by simp⟩⟩
  have hb := below_1 W0 (.cells #[.int .i64 1, .int .i64 (v : Int), .int .i64 n] 60)
  rw [hb.cell (p := ⟨gr, 0 + j, none⟩) (show gr < _ by omega), hb.frozen (p := ⟨gr, 0 + j, none⟩) (show gr < _ by omega)]
  exact hth0.out j hj
 clear c1 c2 c3 c4 cg hm0 hth0 hnx hb0 hsz
 generalize W0.alloc (.cells #[.int .i64 1, .int .i64 (v : Int), .int .i64 n] 60) = V at *
 generalize W0.heap.size = ga at *
 have hisw : isW ⟨1, (v : Int), n⟩ = false := rfl
 obtain ⟨_, _, q0, q1, q2, _, _⟩ := hS.out
 obtain ⟨z, hz⟩ : ∃ z, ms[18 + v]? = some z := ⟨_, List.getElem?_eq_getElem (by omega)⟩
 go_wp2_with fail
 refine wp_region_chain (by kernel_rfl) (fun vs => { tmps := #[.pointer (some ⟨g, 0, none⟩), .agg (MV ms).toArray, .int .i64 (t : Int), undef, .pointer (some ⟨gm, 0, none⟩), undef, .pointer (some ⟨gr, 0, none⟩), .int .i64 (p : Int), .pointer (some ⟨ga, 0, none⟩), .int .i64 (t : Int), .int .i64 (p : Int), .pointer (some ⟨g, 0, none⟩), .pointer (some ⟨g, 0, none⟩), .pointer (some ⟨g, 0, none⟩), .pointer (some ⟨g, 3, none⟩), .slice (some ⟨b1, o1, none⟩) x.thr.length tc, .int .i64 (t : Int), .pointer (some ⟨b1, o1 + t, none⟩), .slice (some ⟨b2, o2, none⟩) len uc, .int .i64 (p : Int), .pointer (some ⟨b2, o2 + p * 3, none⟩), .agg #[.int .i64 1, .int .i64 (v : Int), .int .i64 n], .pointer (some ⟨ga, 0, none⟩), .int .i64 1, .bool true, .bool true, vs 0, vs 1, vs 2, vs 3, vs 4, vs 5, vs 6, vs 7, vs 8, undef, undef, undef, undef, undef, undef, undef, undef, undef, undef, undef, undef, undef, undef, undef, undef, undef, undef, undef, undef, undef, undef, undef, undef, undef, undef, undef, undef, undef, undef, undef, undef, undef, undef, undef, undef, undef, undef, undef, undef, undef, undef, undef, undef, undef, undef, undef, undef, undef, undef, undef, undef, undef], defers := [] }) [] (lv1 [.int .i64 (t : Int), .int .i64 (p : Int), .pointer (some ⟨gm, 6 + t * 4 + p, none⟩), .pointer (some ⟨g, 0, none⟩), .int .i64 (t : Int), .pointer (some ⟨ga, 1, none⟩), .int .i64 (v : Int), .int .i16 z, .pointer (some ⟨gm, 6 + t * 4 + p, none⟩)]) (fun _ _ W => Below V.heap.size V W) (fun i => undef) rfl (by kernel_rfl) ?_ (fun _ _ _ _ _ _ h => h) (allAt_all ⟨?_, ?_, ?_, ?_, ?_, ?_, ?_, ?_, ?_, ?_, trivial⟩) ?_ ?_
 case refine_1 => exact Below.drew (Below.refl _ _)
 case refine_2 =>
  intro _ _ k vs W hB hv
  clear hv
  go_wp2
  exact PurePost.mk' (.int .i64 (t : Int)) (by rfl) rfl
 case refine_3 =>
  intro _ _ k vs W hB hv
  clear hv
  go_wp2
  exact PurePost.mk' (.int .i64 (p : Int)) (by rfl) rfl
 case refine_4 =>
  intro _ _ k vs W hB hv
  have e0 : vs 0 = .int .i64 (t : Int) := hv ⟨0, .data⟩ (by simp) rfl (by decide)
  have e1 : vs 1 = .int .i64 (p : Int) := hv ⟨1, .data⟩ (by simp) rfl (by decide)
  have hcl : Hid (Calls Tryz.prog 75 #[.pointer (some ⟨gm, 0, none⟩), .int .i64 (t : Int), .int .i64 (p : Int)] W fun e w' => e = .returned (.pointer (some ⟨gm, 6 + t * 4 + p, none⟩)) ∧ w' = W) := value_calls gm t p W ht3 (by omega)
  clear hv
  simp only [e0, e1]
  go_wp2_with (go_at_call 75; refine (show Calls _ _ _ _ _ from hcl.out).mono ?_; rintro e w2 ⟨rfl, rfl⟩)
  exact PurePost.mk' (.pointer (some ⟨gm, 6 + t * 4 + p, none⟩)) (by first | (rw [← e0, ← e1]; rfl) | (simp [upd, e0, e1])) rfl
 case refine_5 =>
  intro _ _ k vs W hB hv
  clear hv
  go_wp2
  exact PurePost.mk' (.pointer (some ⟨g, 0, none⟩)) (by rfl) rfl
 case refine_6 =>
  intro _ _ k vs W hB hv
  clear hv
  go_wp2
  exact PurePost.mk' (.int .i64 (t : Int)) (by rfl) rfl
 case refine_7 =>
  intro _ _ k vs W hB hv
  clear hv
  go_wp2
  exact PurePost.mk' (.pointer (some ⟨ga, 1, none⟩)) (by rfl) rfl
 case refine_8 =>
  intro _ _ k vs W hB hv
  have e5 : vs 5 = .pointer (some ⟨ga, 1, none⟩) := hv ⟨5, .data⟩ (by simp) rfl (by decide)
  obtain ⟨_, _, _, r1, _, _, _⟩ := hS.out.on hB
  clear hv
  simp only [e5]
  go_wp2
  exact PurePost.mk' (.int .i64 (v : Int)) (by first | (rw [← e5]; rfl) | (simp [upd, e5])) rfl
 case refine_9 =>
  intro _ _ k vs W hB hv
  have e3 : vs 3 = .pointer (some ⟨g, 0, none⟩) := hv ⟨3, .data⟩ (by simp) rfl (by decide)
  have e4 : vs 4 = .int .i64 (t : Int) := hv ⟨4, .data⟩ (by simp) rfl (by decide)
  have e6 : vs 6 = .int .i64 (v : Int) := hv ⟨6, .data⟩ (by simp) rfl (by decide)
  have hcl : Hid (Calls Tryz.prog 74 #[.pointer (some ⟨g, 0, none⟩), .pointer (some ⟨gm, 0, none⟩), .int .i64 (t : Int), .int .i64 (v : Int)] W fun e w' => e = .returned (.int .i16 z) ∧ w' = W) := seen_calls g gm t v p z ms W ht3 (by omega) hv4 (hS.out.on hB).mom h1 h2 hz
  clear hv
  simp only [e3, e4, e6]
  go_wp2_with (go_at_call 74; refine (show Calls _ _ _ _ _ from hcl.out).mono ?_; rintro e w2 ⟨rfl, rfl⟩)
  exact PurePost.mk' (.int .i16 z) (by first | (rw [← e3, ← e4, ← e6]; rfl) | (simp [upd, e3, e4, e6])) rfl
 case refine_10 =>
  intro _ _ k vs W hB hv
  have e2 : vs 2 = .pointer (some ⟨gm, 6 + t * 4 + p, none⟩) := hv ⟨2, .data⟩ (by simp) rfl (by decide)
  clear hv
  simp only [e2]
  go_wp2
  exact PurePost.mk' (.pointer (some ⟨gm, 6 + t * 4 + p, none⟩)) (by first | (rw [← e2]; rfl) | (simp [upd, e2])) rfl
 case refine_11 => exact fun _ h => absurd h (by simp)
 case refine_12 =>
  intro k q o hq
  simp at hq
 case refine_13 =>
  intro o ho vs W hB hv
  obtain rfl := Option.some.inj ho
  have e0 : vs 0 = .int .i64 (t : Int) := hv 0 (by simp) (by simp)
  have e1 : vs 1 = .int .i64 (p : Int) := hv 1 (by simp) (by simp)
  have e2 : vs 2 = .pointer (some ⟨gm, 6 + t * 4 + p, none⟩) := hv 2 (by simp) (by simp)
  have e3 : vs 3 = .pointer (some ⟨g, 0, none⟩) := hv 3 (by simp) (by simp)
  have e4 : vs 4 = .int .i64 (t : Int) := hv 4 (by simp) (by simp)
  have e5 : vs 5 = .pointer (some ⟨ga, 1, none⟩) := hv 5 (by simp) (by simp)
  have e6 : vs 6 = .int .i64 (v : Int) := hv 6 (by simp) (by simp)
  have e7 : vs 7 = .int .i16 z := hv 7 (by simp) (by simp)
  have e8 : vs 8 = .pointer (some ⟨gm, 6 + t * 4 + p, none⟩) := hv 8 (by simp) (by simp)
  have hSW := hS.out.on hB
  have u1 := hSW.mom.at (List.getElem?_eq_getElem (show 6 + t * 4 + p < ms.length by omega))
  have u2 := hSW.mom.fr (show 6 + t * 4 + p < 22 by omega)
  clear hv
  simp only [e0, e1, e2, e3, e4, e5, e6, e7, e8]
  clear e0 e1 e2 e3 e4 e5 e6 e7 e8
  go_upto_region 10 with (fail)
  have hT : Hid (AcdW w (W.setCell ⟨gm, 6 + t * 4 + p, none⟩ (.int .i16 z)) gm gr ga (ms.set (6 + t * 4 + p) z) 1 (v : Int) n) := hSW.set (6 + t * 4 + p) (by omega) _
  clear u1 u2 hSW hB hS q0 q1 q2
  generalize W.setCell ⟨gm, 6 + t * 4 + p, none⟩ (.int .i16 z) = V1 at *
  have u1 := hT.out.mom.at (show (ms.set (6 + t * 4 + p) z)[t]? = some (p : Int) from by rw [List.getElem?_set_ne (by omega)]; exact h1)
  have u2 := hT.out.mom.fr (show t < 22 by omega)
  go_upto_region 11 with (fail)
  have hU : Hid (AcdW w (V1.setCell ⟨gm, t, none⟩ (.int .i16 ((p : Int) + 1))) gm gr ga ((ms.set (6 + t * 4 + p) z).set t ((p : Int) + 1)) 1 (v : Int) n) := hT.out.set t (by omega) _
  clear u1 u2 hT
  generalize V1.setCell ⟨gm, t, none⟩ (.int .i16 ((p : Int) + 1)) = V2 at *
  refine wp_region_own (by kernel_rfl) (fun vs => { tmps := #[.pointer (some ⟨g, 0, none⟩), .agg (MV ms).toArray, .int .i64 (t : Int), undef, .pointer (some ⟨gm, 0, none⟩), undef, .pointer (some ⟨gr, 0, none⟩), .int .i64 (p : Int), .pointer (some ⟨ga, 0, none⟩), .int .i64 (t : Int), .int .i64 (p : Int), .pointer (some ⟨g, 0, none⟩), .pointer (some ⟨g, 0, none⟩), .pointer (some ⟨g, 0, none⟩), .pointer (some ⟨g, 3, none⟩), .slice (some ⟨b1, o1, none⟩) x.thr.length tc, .int .i64 (t : Int), .pointer (some ⟨b1, o1 + t, none⟩), .slice (some ⟨b2, o2, none⟩) len uc, .int .i64 (p : Int), .pointer (some ⟨b2, o2 + p * 3, none⟩), .agg #[.int .i64 1, .int .i64 (v : Int), .int .i64 n], .pointer (some ⟨ga, 0, none⟩), .int .i64 1, .bool true, .bool true, .int .i64 (t : Int), .int .i64 (p : Int), .pointer (some ⟨gm, 6 + t * 4 + p, none⟩), .pointer (some ⟨g, 0, none⟩), .int .i64 (t : Int), .pointer (some ⟨ga, 1, none⟩), .int .i64 (v : Int), .int .i16 z, .pointer (some ⟨gm, 6 + t * 4 + p, none⟩), undef, undef, undef, undef, undef, undef, undef, undef, undef, undef, undef, undef, undef, undef, undef, undef, undef, undef, undef, undef, undef, undef, .int .i64 (t : Int), .int .i64 (t : Int), .pointer (some ⟨gm, t, none⟩), .int .i16 (p : Int), .int .i16 ((p : Int) + 1), .pointer (some ⟨gm, t, none⟩), vs 0, vs 1, vs 2, vs 3, vs 4, vs 5, vs 6, vs 7, vs 8, vs 9, vs 10, vs 11, vs 12, vs 13, vs 14, vs 15, vs 16, undef, undef, undef, undef, undef, undef, undef, undef], defers := [] }) (lv [.agg #[.int .i64 1, .int .i64 (v : Int), .int .i64 n], .bool false, .bool false, undef, undef, undef, undef, undef, undef, undef, undef, undef, undef, undef, undef, undef, .bool false]) (fun i => undef) rfl (fun _ _ _ _ _ _ _ _ h => h) (allAt_all ⟨?_, ?_, ?_, ?_, ?_, ?_, ?_, ?_, ?_, ?_, ?_, ?_, ?_, ?_, ?_, ?_, ?_, trivial⟩) ?_ (regForward_done (by kernel_rfl))
  case refine_1 =>
   intro vs lo hi W hB hv
   obtain ⟨_, _, r0, r1, r2, _, _⟩ := hU.out.on hB
   obtain ⟨_, _, _, _, _, _, _, cg4⟩ := hxk.out W (hU.out.on hB).hb
   clear hv
   go_wp2
   exact ⟨.agg #[.int .i64 1, .int .i64 (v : Int), .int .i64 n], by rfl, Below.refl _ _, rfl⟩
  case refine_2 =>
   intro vs lo hi W hB hv
   have e0 : vs 0 = .agg #[.int .i64 1, .int .i64 (v : Int), .int .i64 n] := ((hv ⟨0, .data⟩ (by simp) rfl).1)
   have hcl : Hid (Calls Tryz.prog 77 #[.agg #[.int .i64 1, .int .i64 (v : Int), .int .i64 n]] W fun e w' => e = .returned (.bool (isW ⟨1, (v : Int), n⟩)) ∧ Below W.heap.size W w') := isWrite_calls ⟨1, (v : Int), n⟩ W
   clear hv
   simp only [e0]
   go_wp2_with (go_at_call 77; refine (show Calls _ _ _ _ _ from hcl.out).mono ?_; rintro e w2 ⟨rfl, hb2⟩; rw [hisw])
   exact ⟨.bool false, by first | (rw [← e0]; rfl) | (simp [upd, e0]), hb2, rfl⟩
  case refine_3 =>
   intro vs lo hi W hB hv
   have e1 : vs 1 = .bool false := ((hv ⟨1, .data⟩ (by simp) rfl).1)
   clear hv
   simp only [e1]
   go_wp2
   exact ⟨.bool false, by first | (rw [← e1]; rfl) | (simp [upd, e1]), Below.refl _ _, rfl⟩
  case refine_4 =>
   intro vs lo hi W hB hv
   have e2 : vs 2 = .bool false := ((hv ⟨2, .guard⟩ (by simp) rfl).1)
   clear hv
   simp only [e2]
   go_wp2
   exact ⟨undef, by rw [← e2]; rfl, Below.refl _ _, rfl⟩
  case refine_5 =>
   intro vs lo hi W hB hv
   have e2 : vs 2 = .bool false := ((hv ⟨2, .guard⟩ (by simp) rfl).1)
   clear hv
   simp only [e2]
   go_wp2
   exact ⟨undef, by rw [← e2]; rfl, Below.refl _ _, rfl⟩
  case refine_6 =>
   intro vs lo hi W hB hv
   have e2 : vs 2 = .bool false := ((hv ⟨2, .guard⟩ (by simp) rfl).1)
   clear hv
   simp only [e2]
   go_wp2
   exact ⟨undef, by rw [← e2]; rfl, Below.refl _ _, rfl⟩
  case refine_7 =>
   intro vs lo hi W hB hv
   have e2 : vs 2 = .bool false := ((hv ⟨2, .guard⟩ (by simp) rfl).1)
   clear hv
   simp only [e2]
   go_wp2
   exact ⟨undef, by rw [← e2]; rfl, Below.refl _ _, rfl⟩
  case refine_8 =>
   intro vs lo hi W hB hv
   have e2 : vs 2 = .bool false := ((hv ⟨2, .chain⟩ (by simp) rfl).1)
   clear hv
   simp only [e2]
   go_wp2
   exact ⟨undef, by rw [← e2]; rfl, Below.refl _ _, rfl⟩
  case refine_9 =>
   intro vs lo hi W hB hv
   have e7 : vs 7 = undef := ((hv ⟨7, .guard⟩ (by simp) rfl).1)
   clear hv
   simp only [e7]
   go_wp2
   exact ⟨undef, by rw [← e7]; rfl, Below.refl _ _, rfl⟩
  case refine_10 =>
   intro vs lo hi W hB hv
   have e7 : vs 7 = undef := ((hv ⟨7, .guard⟩ (by simp) rfl).1)
   clear hv
   simp only [e7]
   go_wp2
   exact ⟨undef, by rw [← e7]; rfl, Below.refl _ _, rfl⟩
  case refine_11 =>
   intro vs lo hi W hB hv
   have e7 : vs 7 = undef := ((hv ⟨7, .guard⟩ (by simp) rfl).1)
   clear hv
   simp only [e7]
   go_wp2
   exact ⟨undef, by rw [← e7]; rfl, Below.refl _ _, rfl⟩
  case refine_12 =>
   intro vs lo hi W hB hv
   have e7 : vs 7 = undef := ((hv ⟨7, .guard⟩ (by simp) rfl).1)
   clear hv
   simp only [e7]
   go_wp2
   exact ⟨undef, by rw [← e7]; rfl, Below.refl _ _, rfl⟩
  case refine_13 =>
   intro vs lo hi W hB hv
   have e7 : vs 7 = undef := ((hv ⟨7, .guard⟩ (by simp) rfl).1)
   clear hv
   simp only [e7]
   go_wp2
   exact ⟨undef, by rw [← e7]; rfl, Below.refl _ _, rfl⟩
  case refine_14 =>
   intro vs lo hi W hB hv
   have e7 : vs 7 = undef := ((hv ⟨7, .chain⟩ (by simp) rfl).1)
   clear hv
   simp only [e7]
   go_wp2
   exact ⟨undef, by rw [← e7]; rfl, Below.refl _ _, rfl⟩
  case refine_15 =>
   intro vs lo hi W hB hv
   have e2 : vs 2 = .bool false := ((hv ⟨2, .guard⟩ (by simp) rfl).1)
   clear hv
   simp only [e2]
   go_wp2
   exact ⟨undef, by rw [← e2]; rfl, Below.refl _ _, rfl⟩
  case refine_16 =>
   intro vs lo hi W hB hv
   have e2 : vs 2 = .bool false := ((hv ⟨2, .guard⟩ (by simp) rfl).1)
   clear hv
   simp only [e2]
   go_wp2
   exact ⟨undef, by rw [← e2]; rfl, Below.refl _ _, rfl⟩
  case refine_17 =>
   intro vs lo hi W hB hv
   have e2 : vs 2 = .bool false := ((hv ⟨2, .data⟩ (by simp) rfl).1)
   have e15 : vs 15 = undef := ((hv ⟨15, .data⟩ (by simp) rfl).1)
   clear hv
   simp only [e2, e15]
   go_wp2
   exact ⟨.bool false, by first | (rw [← e2, ← e15]; rfl) | (simp [upd, e2, e15]), Below.refl _ _, rfl⟩
  case refine_18 =>
   intro vs lo hi W hB hv _ _
   have e0 : vs 0 = .agg #[.int .i64 1, .int .i64 (v : Int), .int .i64 n] := (hv 0 (by simp))
   have e1 : vs 1 = .bool false := (hv 1 (by simp))
   have e2 : vs 2 = .bool false := (hv 2 (by simp))
   have e16 : vs 16 = .bool false := (hv 16 (by simp))
   clear hv
   simp only [e0, e1, e2, e16]
   have hUW : Hid (AcdW w W gm gr ga ((ms.set (6 + t * 4 + p) z).set t ((p : Int) + 1)) 1 (v : Int) n) := hU.out.on hB
   obtain ⟨hiW, hxW, hgW, _, _, _, c3W, _⟩ := hxk.out W hUW.out.hb
   have hsg : Hid (w.heap.size ≤ gr) := by have := hUW.out.sz; show _ ≤ _; omega
   have hpo : Hid (Calls Tryz.prog 79 #[.pointer (some ⟨g, 0, none⟩), .pointer (some ⟨gm, 0, none⟩), .int .i64 (t : Int)] W fun e w' => e = .returned (.tuple #[]) ∧ MomW w' gm (((ms.set (6 + t * 4 + p) z).set t ((p : Int) + 1)).set (3 + t) ((p : Int) + 1)) ∧ W.grownBy w' (some gm)) := passOne_calls x ⟨1, (v : Int), n⟩ g gm t p ((ms.set (6 + t * 4 + p) z).set t ((p : Int) + 1)) _ tc W _ _ hiW hxW hgW c3W (by have := hUW.out.sz; omega) ht3 hp4 hac.out hisw hUW.out.mom (by rw [List.getElem?_set_self (by first | (simp; omega) | omega)]) (by rw [List.getElem?_set_ne (by omega), List.getElem?_set_ne (by omega)]; exact h2)
   clear hiW hxW hgW c3W hU hB
   go_wp2_with fail
   refine hpo.out.mono ?_
   rintro e W5 ⟨rfl, hm5, hg5⟩
   have h5 : Hid (AcdW w W5 gm gr ga (((ms.set (6 + t * 4 + p) z).set t ((p : Int) + 1)).set (3 + t) ((p : Int) + 1)) 1 (v : Int) n) := hUW.out.grown hg5 hm5
   clear hm5 hg5 hpo hUW
   go_wp2_with (first | (refine wpList_load_mid rfl 97 _ rfl gm 0 rfl (MV (((ms.set (6 + t * 4 + p) z).set t ((p : Int) + 1)).set (3 + t) ((p : Int) + 1))) _ h5.out.mom.row Tryz.underlying97 rfl (by rw [show (MV (((ms.set (6 + t * 4 + p) z).set t ((p : Int) + 1)).set (3 + t) ((p : Int) + 1))).length = 22 by simp [MV, hl]]; kernel_rfl) ?_) | (refine wpList_store_mid rfl 97 _ _ rfl gr 0 (MV (((ms.set (6 + t * 4 + p) z).set t ((p : Int) + 1)).set (3 + t) ((p : Int) + 1))).toArray rfl rfl (by rw [show (MV (((ms.set (6 + t * 4 + p) z).set t ((p : Int) + 1)).set (3 + t) ((p : Int) + 1))).toArray.size = 22 by simp [MV, hl]]; exact h5.out.th) (by rw [show (MV (((ms.set (6 + t * 4 + p) z).set t ((p : Int) + 1)).set (3 + t) ((p : Int) + 1))).toArray.size = 22 by simp [MV, hl]]; kernel_rfl) (all_oneCell_toArray (fun v hv => by simp only [MV, List.mem_map] at hv; obtain ⟨q, _, rfl⟩ := hv; rfl)) ?_))
   refine bodyPost_ret (v := .agg (MV (((ms.set (6 + t * 4 + p) z).set t ((p : Int) + 1)).set (3 + t) ((p : Int) + 1))).toArray) (results_cell_mid rfl _ _ gr (MV (((ms.set (6 + t * 4 + p) z).set t ((p : Int) + 1)).set (3 + t) ((p : Int) + 1))) _ rfl (World.rangeAt_setCells_same W5 gr 0 (MV (((ms.set (6 + t * 4 + p) z).set t ((p : Int) + 1)).set (3 + t) ((p : Int) + 1))) (by rw [show (MV (((ms.set (6 + t * 4 + p) z).set t ((p : Int) + 1)).set (3 + t) ((p : Int) + 1))).length = 22 by simp [MV, hl]]; exact h5.out.th)) Tryz.underlying97 rfl (by rw [show (MV (((ms.set (6 + t * 4 + p) z).set t ((p : Int) + 1)).set (3 + t) ((p : Int) + 1))).length = 22 by simp [MV, hl]]; kernel_rfl)) rfl ⟨(((ms.set (6 + t * 4 + p) z).set t ((p : Int) + 1)).set (3 + t) ((p : Int) + 1)), rfl, by simp [hl], first6 ht3 _ (by omega) _, below_setCells gr hsg.out (MV (((ms.set (6 + t * 4 + p) z).set t ((p : Int) + 1)).set (3 + t) ((p : Int) + 1))) 0 W5 h5.out.hb⟩

set_option maxRecDepth 1000000 in
set_option maxHeartbeats 8000000 in
theorem acted_write (x : LitL) (g t p : Nat) (v : Nat) (n : Int) (hv4 : v < 4) (ms : List Int) (ta : Option Addr) (tc : Nat) (w : World) (lo hi : Nat) (hh : hi ≤ w.heap.size) (hx : ListAt ThrR 1 true lo hi w (.slice ta x.thr.length tc) x.thr) (hg : g < w.heap.size) (hc : w.rangeAt g 0 [.int .i64 x.vars, .int .i64 x.vol, .int .i64 x.locks, .slice ta x.thr.length tc, .bool false]) (ht3 : t < 3) (hp4 : p ≤ 3) (ha : actAt x t p = some ⟨2, (v : Int), n⟩) (hl : ms.length = 22) (h1 : ms[t]? = some (p : Int)) (h2 : ms[3 + t]? = some (p : Int)) :
  Calls Tryz.prog 52 #[.pointer (some ⟨g, 0, none⟩), .agg (MV ms).toArray, .int .i64 (t : Int)] w fun e w' => ∃ ms', e = .returned (.agg (MV ms').toArray) ∧ ms'.length = 22 ∧ (∀ j, j < 6 → ms'[j]? = ((ms.set t ((p : Int) + 1)).set (3 + t) ((p : Int) + 1))[j]?) ∧ Below w.heap.size w w' := by
 obtain ⟨b1, o1, len, uc, b2, o2, rfl, ht, hk, hkc, hb1, hA⟩ := actAt_of hx hh ha
 have hac : Hid (actAt x t p = some ⟨2, (v : Int), n⟩) := ha
 have hpl : Hid (p ≤ (x.thr[t]).length) := by
  show _ ≤ _
  unfold actAt at ha
  rw [List.getElem?_eq_getElem ht] at ha
  have := (List.getElem?_eq_some_iff.1 ha).1
  omega
 obtain ⟨gm, hgm⟩ : ∃ gm, gm = w.heap.size := ⟨_, rfl⟩
 obtain ⟨gr, hgr⟩ : ∃ gr, gr = w.heap.size + 1 := ⟨_, rfl⟩
 obtain ⟨W0, hW0⟩ : ∃ W0 : World, W0 = (w.alloc (.cells (MV ms).toArray 97)).alloc (.cells #[.int .i16 0, .int .i16 0, .int .i16 0, .int .i16 0, .int .i16 0, .int .i16 0, .int .i16 0, .int .i16 0, .int .i16 0, .int .i16 0, .int .i16 0, .int .i16 0, .int .i16 0, .int .i16 0, .int .i16 0, .int .i16 0, .int .i16 0, .int .i16 0, .int .i16 0, .int .i16 0, .int .i16 0, .int .i16 0] 97) := ⟨_, rfl⟩
 have hb0 : Hid (Below w.heap.size w W0) := by show Below _ _ _; rw [hW0]; exact below_on (below_1 _ _) (below_1 _ _)
 have hm0 : Hid (MomW W0 gm ms) := by show MomW _ _ _; rw [hW0, hgm]; exact (momW_new hl _).on (by simp) (below_1 _ _)
 have hth0 : Hid (W0.there gr 0 22) := by
  show World.there _ _ _ _
  have := there_heap (show W0.heap[gr]? = some (.cells #[.int .i16 0, .int .i16 0, .int .i16 0, .int .i16 0, .int .i16 0, .int .i16 0, .int .i16 0, .int .i16 0, .int .i16 0, .int .i16 0, .int .i16 0, .int .i16 0, .int .i16 0, .int .i16 0, .int .i16 0, .int .i16 0, .int .i16 0, .int .i16 0, .int .i16 0, .int .i16 0, .int .i16 0, .int .i16 0] 97) by rw [hW0, hgr]; simpa using heap_alloc_new (w.alloc (.cells (MV ms).toArray 97)) (.cells #[.int .i16 0, .int .i16 0, .int .i16 0, .int .i16 0, .int .i16 0, .int .i16 0, .int .i16 0, .int .i16 0, .int .i16 0, .int .i16 0, .int .i16 0, .int .i16 0, .int .i16 0, .int .i16 0, .int .i16 0, .int .i16 0, .int .i16 0, .int .i16 0, .int .i16 0, .int .i16 0, .int .i16 0, .int .i16 0] 97))
  exact this
 have hsz : Hid (gr + 1 = W0.heap.size ∧ gm < gr ∧ w.heap.size = gm) := by show _ ∧ _; rw [hW0, hgr, hgm]; simp
 have hxk : Hid (∀ W, Below w.heap.size w W → hi ≤ W.heap.size ∧ ListAt ThrR 1 true lo hi W (.slice (some ⟨b1, o1, none⟩) x.thr.length tc) x.thr ∧ g < W.heap.size ∧ W.cell? ⟨g, 0, none⟩ = some (.int .i64 x.vars) ∧ W.cell? ⟨g, 1, none⟩ = some (.int .i64 x.vol) ∧ W.cell? ⟨g, 2, none⟩ = some (.int .i64 x.locks) ∧ W.cell? ⟨g, 3, none⟩ = some (.slice (some ⟨b1, o1, none⟩) x.thr.length tc) ∧ W.cell? ⟨g, 4, none⟩ = some (.bool false)) := fun W hW => by
  have := hW.size
  exact ⟨by omega, hx.kept ThrR.stable (Nat.le_refl _) (Nat.le_refl _) ((Same.below hW).mono (Nat.zero_le _) hh), by omega, (hW.cell (p := ⟨g, 0, none⟩) hg).trans (hc 0 _ rfl), (hW.cell (p := ⟨g, 1, none⟩) hg).trans (hc 1 _ rfl), (hW.cell (p := ⟨g, 2, none⟩) hg).trans (hc 2 _ rfl), (hW.cell (p := ⟨g, 3, none⟩) hg).trans (hc 3 _ rfl), (hW.cell (p := ⟨g, 4, none⟩) hg).trans (hc 4 _ rfl)⟩
 obtain ⟨c1, c2, c3, c4⟩ := hA W0 hb0.out
 have cg := (hxk.out W0 hb0.out).2.2.2.2.2.2.1
 have hnx : Hid (Calls Tryz.prog 51 #[.pointer (some ⟨gm, 0, none⟩), .int .i64 (t : Int)] W0 fun e w' => e = .returned (.int .i64 (p : Int)) ∧ w' = W0) := next_calls gm t p W0 ht3 (by omega) (hm0.out.at h1)
 have p1 : (t : Int) < x.thr.length := by omega
 have p2 : (p : Int) < len := by omega
 have p3 : (3 + (t : Int)) < 22 := by omega
 have p4 : (p : Int) ≤ 3 := by omega
 have p6 : (t : Int) < 22 := by omega
 have hw16 : IntKind.i16.wrap ((p : Int) + 1) = (p : Int) + 1 := by simp only [IntKind.wrap, IntKind.bits, IntKind.signed]; simp; split <;> omega
 clear hA hx ha hc
 go_enter Tryz.func52, Tryz.ntmps52
 go_wp2_with fail
 rw [← hW0, ← hgr, ← hgm]
 clear hW0 hgm hgr
 refine hnx.out.mono ?_
 rintro e w2 ⟨rfl, rfl⟩
 rename World => W0
 go_upto_region 3 with (fail)
 have hS : Hid (AcdW w (W0.alloc (.cells #[.int .i64 2, .int .i64 (v : Int), .int .i64 n] 60)) gm gr W0.heap.size ms 2 (v : Int) n) := by
  have e := heap_alloc_new W0 (.cells #[.int .i64 2, .int .i64 (v : Int), .int .i64 n] 60)
  have hr := rangeAt_heap e
  have hs := hsz.out
  refine ⟨hm0.out.on (by omega) (below_1 _ _), fun j hj => ?_, by simp, by simp, by simp, below_on hb0.out (below_1 _ _), ⟨by omega, by omega, by omega, by simp⟩⟩
  have hb := below_1 W0 (.cells #[.int .i64 2, .int .i64 (v : Int), .int .i64 n] 60)
  rw [hb.cell (p := ⟨gr, 0 + j, none⟩) (show gr < _ by omega), hb.frozen (p := ⟨gr, 0 + j, none⟩) (show gr < _ by omega)]
  exact hth0.out j hj
 clear c1 c2 c3 c4 cg hm0 hth0 hnx hb0 hsz
 generalize W0.alloc (.cells #[.int .i64 2, .int .i64 (v : Int), .int .i64 n] 60) = V at *
 generalize W0.heap.size = ga at *
 have hisw : isW ⟨2, (v : Int), n⟩ = true := rfl
 obtain ⟨_, _, q0, q1, q2, _, _⟩ := hS.out
 go_wp2_with fail
 refine wp_region_chain (by kernel_rfl) (fun vs => { tmps := #[.pointer (some ⟨g, 0, none⟩), .agg (MV ms).toArray, .int .i64 (t : Int), undef, .pointer (some ⟨gm, 0, none⟩), undef, .pointer (some ⟨gr, 0, none⟩), .int .i64 (p : Int), .pointer (some ⟨ga, 0, none⟩), .int .i64 (t : Int), .int .i64 (p : Int), .pointer (some ⟨g, 0, none⟩), .pointer (some ⟨g, 0, none⟩), .pointer (some ⟨g, 0, none⟩), .pointer (some ⟨g, 3, none⟩), .slice (some ⟨b1, o1, none⟩) x.thr.length tc, .int .i64 (t : Int), .pointer (some ⟨b1, o1 + t, none⟩), .slice (some ⟨b2, o2, none⟩) len uc, .int .i64 (p : Int), .pointer (some ⟨b2, o2 + p * 3, none⟩), .agg #[.int .i64 2, .int .i64 (v : Int), .int .i64 n], .pointer (some ⟨ga, 0, none⟩), .int .i64 2, .bool false, .bool false, undef, undef, undef, undef, undef, undef, undef, undef, undef, .bool true, .bool true, vs 0, vs 1, vs 2, vs 3, vs 4, vs 5, vs 6, undef, undef, undef, undef, undef, undef, undef, undef, undef, undef, undef, undef, undef, undef, undef, undef, undef, undef, undef, undef, undef, undef, undef, undef, undef, undef, undef, undef, undef, undef, undef, undef, undef, undef, undef, undef, undef, undef, undef, undef, undef, undef, undef, undef], defers := [] }) [] (lv1 [.int .i64 (t : Int), .int .i64 (p : Int), .pointer (some ⟨gm, 6 + t * 4 + p, none⟩), .pointer (some ⟨ga, 2, none⟩), .int .i64 n, .int .i16 (IntKind.i16.wrap n), .pointer (some ⟨gm, 6 + t * 4 + p, none⟩)]) (fun _ _ W => Below V.heap.size V W) (fun i => undef) rfl (by kernel_rfl) ?_ (fun _ _ _ _ _ _ h => h) (allAt_all ⟨?_, ?_, ?_, ?_, ?_, ?_, ?_, ?_, trivial⟩) ?_ ?_
 case refine_1 => exact Below.drew (Below.refl _ _)
 case refine_2 =>
  intro _ _ k vs W hB hv
  clear hv
  go_wp2
  exact PurePost.mk' (.int .i64 (t : Int)) (by rfl) rfl
 case refine_3 =>
  intro _ _ k vs W hB hv
  clear hv
  go_wp2
  exact PurePost.mk' (.int .i64 (p : Int)) (by rfl) rfl
 case refine_4 =>
  intro _ _ k vs W hB hv
  have e0 : vs 0 = .int .i64 (t : Int) := hv ⟨0, .data⟩ (by simp) rfl (by decide)
  have e1 : vs 1 = .int .i64 (p : Int) := hv ⟨1, .data⟩ (by simp) rfl (by decide)
  have hcl : Hid (Calls Tryz.prog 75 #[.pointer (some ⟨gm, 0, none⟩), .int .i64 (t : Int), .int .i64 (p : Int)] W fun e w' => e = .returned (.pointer (some ⟨gm, 6 + t * 4 + p, none⟩)) ∧ w' = W) := value_calls gm t p W ht3 (by omega)
  clear hv
  simp only [e0, e1]
  go_wp2_with (go_at_call 75; refine (show Calls _ _ _ _ _ from hcl.out).mono ?_; rintro e w2 ⟨rfl, rfl⟩)
  exact PurePost.mk' (.pointer (some ⟨gm, 6 + t * 4 + p, none⟩)) (by first | (rw [← e0, ← e1]; rfl) | (simp [upd, e0, e1])) rfl
 case refine_5 =>
  intro _ _ k vs W hB hv
  clear hv
  go_wp2
  exact PurePost.mk' (.pointer (some ⟨ga, 2, none⟩)) (by rfl) rfl
 case refine_6 =>
  intro _ _ k vs W hB hv
  have e3 : vs 3 = .pointer (some ⟨ga, 2, none⟩) := hv ⟨3, .data⟩ (by simp) rfl (by decide)
  obtain ⟨_, _, _, _, r2, _, _⟩ := hS.out.on hB
  clear hv
  simp only [e3]
  go_wp2
  exact PurePost.mk' (.int .i64 n) (by first | (rw [← e3]; rfl) | (simp [upd, e3])) rfl
 case refine_7 =>
  intro _ _ k vs W hB hv
  have e4 : vs 4 = .int .i64 n := hv ⟨4, .data⟩ (by simp) rfl (by decide)
  clear hv
  simp only [e4]
  go_wp2
  exact PurePost.mk' (.int .i16 (IntKind.i16.wrap n)) (by first | (rw [← e4]; rfl) | (simp [upd, e4])) rfl
 case refine_8 =>
  intro _ _ k vs W hB hv
  have e2 : vs 2 = .pointer (some ⟨gm, 6 + t * 4 + p, none⟩) := hv ⟨2, .data⟩ (by simp) rfl (by decide)
  clear hv
  simp only [e2]
  go_wp2
  exact PurePost.mk' (.pointer (some ⟨gm, 6 + t * 4 + p, none⟩)) (by first | (rw [← e2]; rfl) | (simp [upd, e2])) rfl
 case refine_9 => exact fun _ h => absurd h (by simp)
 case refine_10 =>
  intro k q o hq
  simp at hq
 case refine_11 =>
  intro o ho vs W hB hv
  obtain rfl := Option.some.inj ho
  have e0 : vs 0 = .int .i64 (t : Int) := hv 0 (by simp) (by simp)
  have e1 : vs 1 = .int .i64 (p : Int) := hv 1 (by simp) (by simp)
  have e2 : vs 2 = .pointer (some ⟨gm, 6 + t * 4 + p, none⟩) := hv 2 (by simp) (by simp)
  have e3 : vs 3 = .pointer (some ⟨ga, 2, none⟩) := hv 3 (by simp) (by simp)
  have e4 : vs 4 = .int .i64 n := hv 4 (by simp) (by simp)
  have e5 : vs 5 = .int .i16 (IntKind.i16.wrap n) := hv 5 (by simp) (by simp)
  have e6 : vs 6 = .pointer (some ⟨gm, 6 + t * 4 + p, none⟩) := hv 6 (by simp) (by simp)
  have hSW := hS.out.on hB
  have u1 := hSW.mom.at (List.getElem?_eq_getElem (show 6 + t * 4 + p < ms.length by omega))
  have u2 := hSW.mom.fr (show 6 + t * 4 + p < 22 by omega)
  clear hv
  simp only [e0, e1, e2, e3, e4, e5, e6]
  clear e0 e1 e2 e3 e4 e5 e6
  go_upto_region 10 with (fail)
  have hT : Hid (AcdW w (W.setCell ⟨gm, 6 + t * 4 + p, none⟩ (.int .i16 (IntKind.i16.wrap n))) gm gr ga (ms.set (6 + t * 4 + p) (IntKind.i16.wrap n)) 2 (v : Int) n) := hSW.set (6 + t * 4 + p) (by omega) _
  clear u1 u2 hSW hB hS q0 q1 q2
  generalize W.setCell ⟨gm, 6 + t * 4 + p, none⟩ (.int .i16 (IntKind.i16.wrap n)) = V1 at *
  have u1 := hT.out.mom.at (show (ms.set (6 + t * 4 + p) (IntKind.i16.wrap n))[t]? = some (p : Int) from by rw [List.getElem?_set_ne (by omega)]; exact h1)
  have u2 := hT.out.mom.fr (show t < 22 by omega)
  go_upto_region 11 with (fail)
  have hU : Hid (AcdW w (V1.setCell ⟨gm, t, none⟩ (.int .i16 ((p : Int) + 1))) gm gr ga ((ms.set (6 + t * 4 + p) (IntKind.i16.wrap n)).set t ((p : Int) + 1)) 2 (v : Int) n) := hT.out.set t (by omega) _
  clear u1 u2 hT
  generalize V1.setCell ⟨gm, t, none⟩ (.int .i16 ((p : Int) + 1)) = V2 at *
  refine wp_region_own (by kernel_rfl) (fun vs => { tmps := #[.pointer (some ⟨g, 0, none⟩), .agg (MV ms).toArray, .int .i64 (t : Int), undef, .pointer (some ⟨gm, 0, none⟩), undef, .pointer (some ⟨gr, 0, none⟩), .int .i64 (p : Int), .pointer (some ⟨ga, 0, none⟩), .int .i64 (t : Int), .int .i64 (p : Int), .pointer (some ⟨g, 0, none⟩), .pointer (some ⟨g, 0, none⟩), .pointer (some ⟨g, 0, none⟩), .pointer (some ⟨g, 3, none⟩), .slice (some ⟨b1, o1, none⟩) x.thr.length tc, .int .i64 (t : Int), .pointer (some ⟨b1, o1 + t, none⟩), .slice (some ⟨b2, o2, none⟩) len uc, .int .i64 (p : Int), .pointer (some ⟨b2, o2 + p * 3, none⟩), .agg #[.int .i64 2, .int .i64 (v : Int), .int .i64 n], .pointer (some ⟨ga, 0, none⟩), .int .i64 2, .bool false, .bool false, undef, undef, undef, undef, undef, undef, undef, undef, undef, .bool true, .bool true, .int .i64 (t : Int), .int .i64 (p : Int), .pointer (some ⟨gm, 6 + t * 4 + p, none⟩), .pointer (some ⟨ga, 2, none⟩), .int .i64 n, .int .i16 (IntKind.i16.wrap n), .pointer (some ⟨gm, 6 + t * 4 + p, none⟩), undef, undef, undef, undef, undef, undef, undef, undef, undef, undef, undef, undef, undef, .int .i64 (t : Int), .int .i64 (t : Int), .pointer (some ⟨gm, t, none⟩), .int .i16 (p : Int), .int .i16 ((p : Int) + 1), .pointer (some ⟨gm, t, none⟩), vs 0, vs 1, vs 2, vs 3, vs 4, vs 5, vs 6, vs 7, vs 8, vs 9, vs 10, vs 11, vs 12, vs 13, vs 14, vs 15, vs 16, undef, undef, undef, undef, undef, undef, undef, undef], defers := [] }) (lv [.agg #[.int .i64 2, .int .i64 (v : Int), .int .i64 n], .bool true, .bool true, .pointer (some ⟨g, 0, none⟩), .pointer (some ⟨g, 0, none⟩), .pointer (some ⟨g, 4, none⟩), .bool false, .bool false, undef, undef, undef, undef, undef, undef, .bool false, .bool true, .bool true]) (fun i => undef) rfl (fun _ _ _ _ _ _ _ _ h => h) (allAt_all ⟨?_, ?_, ?_, ?_, ?_, ?_, ?_, ?_, ?_, ?_, ?_, ?_, ?_, ?_, ?_, ?_, ?_, trivial⟩) ?_ (regForward_done (by kernel_rfl))
  case refine_1 =>
   intro vs lo hi W hB hv
   obtain ⟨_, _, r0, r1, r2, _, _⟩ := hU.out.on hB
   obtain ⟨_, _, _, _, _, _, _, cg4⟩ := hxk.out W (hU.out.on hB).hb
   clear hv
   go_wp2
   exact ⟨.agg #[.int .i64 2, .int .i64 (v : Int), .int .i64 n], by rfl, Below.refl _ _, rfl⟩
  case refine_2 =>
   intro vs lo hi W hB hv
   have e0 : vs 0 = .agg #[.int .i64 2, .int .i64 (v : Int), .int .i64 n] := ((hv ⟨0, .data⟩ (by simp) rfl).1)
   have hcl : Hid (Calls Tryz.prog 77 #[.agg #[.int .i64 2, .int .i64 (v : Int), .int .i64 n]] W fun e w' => e = .returned (.bool (isW ⟨2, (v : Int), n⟩)) ∧ Below W.heap.size W w') := isWrite_calls ⟨2, (v : Int), n⟩ W
   clear hv
   simp only [e0]
   go_wp2_with (go_at_call 77; refine (show Calls _ _ _ _ _ from hcl.out).mono ?_; rintro e w2 ⟨rfl, hb2⟩; rw [hisw])
   exact ⟨.bool true, by first | (rw [← e0]; rfl) | (simp [upd, e0]), hb2, rfl⟩
  case refine_3 =>
   intro vs lo hi W hB hv
   have e1 : vs 1 = .bool true := ((hv ⟨1, .data⟩ (by simp) rfl).1)
   clear hv
   simp only [e1]
   go_wp2
   exact ⟨.bool true, by first | (rw [← e1]; rfl) | (simp [upd, e1]), Below.refl _ _, rfl⟩
  case refine_4 =>
   intro vs lo hi W hB hv
   have e2 : vs 2 = .bool true := ((hv ⟨2, .guard⟩ (by simp) rfl).1)
   clear hv
   simp only [e2]
   go_wp2
   exact ⟨.pointer (some ⟨g, 0, none⟩), by first | (rw [← e2]; rfl) | (simp [upd, e2]), Below.refl _ _, rfl⟩
  case refine_5 =>
   intro vs lo hi W hB hv
   have e3 : vs 3 = .pointer (some ⟨g, 0, none⟩) := ((hv ⟨3, .data⟩ (by simp) rfl).1)
   have e2 : vs 2 = .bool true := ((hv ⟨2, .guard⟩ (by simp) rfl).1)
   clear hv
   simp only [e3, e2]
   go_wp2
   exact ⟨.pointer (some ⟨g, 0, none⟩), by first | (rw [← e3, ← e2]; rfl) | (simp [upd, e3, e2]), Below.refl _ _, rfl⟩
  case refine_6 =>
   intro vs lo hi W hB hv
   have e4 : vs 4 = .pointer (some ⟨g, 0, none⟩) := ((hv ⟨4, .data⟩ (by simp) rfl).1)
   have e2 : vs 2 = .bool true := ((hv ⟨2, .guard⟩ (by simp) rfl).1)
   clear hv
   simp only [e4, e2]
   go_wp2
   exact ⟨.pointer (some ⟨g, 4, none⟩), by first | (rw [← e4, ← e2]; rfl) | (simp [upd, e4, e2]), Below.refl _ _, rfl⟩
  case refine_7 =>
   intro vs lo hi W hB hv
   have e5 : vs 5 = .pointer (some ⟨g, 4, none⟩) := ((hv ⟨5, .data⟩ (by simp) rfl).1)
   have e2 : vs 2 = .bool true := ((hv ⟨2, .guard⟩ (by simp) rfl).1)
   obtain ⟨_, _, r0, r1, r2, _, _⟩ := hU.out.on hB
   obtain ⟨_, _, _, _, _, _, _, cg4⟩ := hxk.out W (hU.out.on hB).hb
   clear hv
   simp only [e5, e2]
   go_wp2
   exact ⟨.bool false, by first | (rw [← e5, ← e2]; rfl) | (simp [upd, e5, e2]), Below.refl _ _, rfl⟩
  case refine_8 =>
   intro vs lo hi W hB hv
   have e6 : vs 6 = .bool false := ((hv ⟨6, .data⟩ (by simp) rfl).1)
   have e2 : vs 2 = .bool true := ((hv ⟨2, .chain⟩ (by simp) rfl).1)
   clear hv
   simp only [e6, e2]
   go_wp2
   exact ⟨.bool false, by first | (rw [← e6, ← e2]; rfl) | (simp [upd, e6, e2]), Below.refl _ _, rfl⟩
  case refine_9 =>
   intro vs lo hi W hB hv
   have e7 : vs 7 = .bool false := ((hv ⟨7, .guard⟩ (by simp) rfl).1)
   clear hv
   simp only [e7]
   go_wp2
   exact ⟨undef, by rw [← e7]; rfl, Below.refl _ _, rfl⟩
  case refine_10 =>
   intro vs lo hi W hB hv
   have e7 : vs 7 = .bool false := ((hv ⟨7, .guard⟩ (by simp) rfl).1)
   clear hv
   simp only [e7]
   go_wp2
   exact ⟨undef, by rw [← e7]; rfl, Below.refl _ _, rfl⟩
  case refine_11 =>
   intro vs lo hi W hB hv
   have e7 : vs 7 = .bool false := ((hv ⟨7, .guard⟩ (by simp) rfl).1)
   clear hv
   simp only [e7]
   go_wp2
   exact ⟨undef, by rw [← e7]; rfl, Below.refl _ _, rfl⟩
  case refine_12 =>
   intro vs lo hi W hB hv
   have e7 : vs 7 = .bool false := ((hv ⟨7, .guard⟩ (by simp) rfl).1)
   clear hv
   simp only [e7]
   go_wp2
   exact ⟨undef, by rw [← e7]; rfl, Below.refl _ _, rfl⟩
  case refine_13 =>
   intro vs lo hi W hB hv
   have e7 : vs 7 = .bool false := ((hv ⟨7, .guard⟩ (by simp) rfl).1)
   clear hv
   simp only [e7]
   go_wp2
   exact ⟨undef, by rw [← e7]; rfl, Below.refl _ _, rfl⟩
  case refine_14 =>
   intro vs lo hi W hB hv
   have e7 : vs 7 = .bool false := ((hv ⟨7, .chain⟩ (by simp) rfl).1)
   clear hv
   simp only [e7]
   go_wp2
   exact ⟨undef, by rw [← e7]; rfl, Below.refl _ _, rfl⟩
  case refine_15 =>
   intro vs lo hi W hB hv
   have e7 : vs 7 = .bool false := ((hv ⟨7, .data⟩ (by simp) rfl).1)
   have e13 : vs 13 = undef := ((hv ⟨13, .data⟩ (by simp) rfl).1)
   have e2 : vs 2 = .bool true := ((hv ⟨2, .guard⟩ (by simp) rfl).1)
   clear hv
   simp only [e7, e13, e2]
   go_wp2
   exact ⟨.bool false, by first | (rw [← e7, ← e13, ← e2]; rfl) | (simp [upd, e7, e13, e2]), Below.refl _ _, rfl⟩
  case refine_16 =>
   intro vs lo hi W hB hv
   have e14 : vs 14 = .bool false := ((hv ⟨14, .data⟩ (by simp) rfl).1)
   have e2 : vs 2 = .bool true := ((hv ⟨2, .guard⟩ (by simp) rfl).1)
   clear hv
   simp only [e14, e2]
   go_wp2
   exact ⟨.bool true, by first | (rw [← e14, ← e2]; rfl) | (simp [upd, e14, e2]), Below.refl _ _, rfl⟩
  case refine_17 =>
   intro vs lo hi W hB hv
   have e2 : vs 2 = .bool true := ((hv ⟨2, .data⟩ (by simp) rfl).1)
   have e15 : vs 15 = .bool true := ((hv ⟨15, .data⟩ (by simp) rfl).1)
   clear hv
   simp only [e2, e15]
   go_wp2
   exact ⟨.bool true, by first | (rw [← e2, ← e15]; rfl) | (simp [upd, e2, e15]), Below.refl _ _, rfl⟩
  case refine_18 =>
   intro vs lo hi W hB hv _ _
   have e0 : vs 0 = .agg #[.int .i64 2, .int .i64 (v : Int), .int .i64 n] := (hv 0 (by simp))
   have e1 : vs 1 = .bool true := (hv 1 (by simp))
   have e2 : vs 2 = .bool true := (hv 2 (by simp))
   have e3 : vs 3 = .pointer (some ⟨g, 0, none⟩) := (hv 3 (by simp))
   have e4 : vs 4 = .pointer (some ⟨g, 0, none⟩) := (hv 4 (by simp))
   have e5 : vs 5 = .pointer (some ⟨g, 4, none⟩) := (hv 5 (by simp))
   have e6 : vs 6 = .bool false := (hv 6 (by simp))
   have e7 : vs 7 = .bool false := (hv 7 (by simp))
   have e14 : vs 14 = .bool false := (hv 14 (by simp))
   have e15 : vs 15 = .bool true := (hv 15 (by simp))
   have e16 : vs 16 = .bool true := (hv 16 (by simp))
   clear hv
   simp only [e0, e1, e2, e3, e4, e5, e6, e7, e14, e15, e16]
   have hUW : Hid (AcdW w W gm gr ga ((ms.set (6 + t * 4 + p) (IntKind.i16.wrap n)).set t ((p : Int) + 1)) 2 (v : Int) n) := hU.out.on hB
   obtain ⟨hiW, hxW, hgW, _, _, _, c3W, _⟩ := hxk.out W hUW.out.hb
   have hsg : Hid (w.heap.size ≤ gr) := by have := hUW.out.sz; show _ ≤ _; omega
   have hsent : Hid (Calls Tryz.prog 78 #[.pointer (some ⟨g, 0, none⟩), .agg (MV ((ms.set (6 + t * 4 + p) (IntKind.i16.wrap n)).set t ((p : Int) + 1))).toArray, .int .i64 (t : Int)] W fun e w' => ∃ ms', e = .returned (.agg (MV ms').toArray) ∧ ms'.length = 22 ∧ (∀ j, j < 6 → ms'[j]? = (((ms.set (6 + t * 4 + p) (IntKind.i16.wrap n)).set t ((p : Int) + 1)).set (3 + t) ((p : Int) + 1))[j]?) ∧ Below W.heap.size W w') := sent_calls x ⟨2, (v : Int), n⟩ g t p v ((ms.set (6 + t * 4 + p) (IntKind.i16.wrap n)).set t ((p : Int) + 1)) _ tc W _ _ hiW hxW hgW c3W ht3 hp4 hac.out rfl hv4 (by simp [hl]) (by rw [List.getElem?_set_self (by first | (simp; omega) | omega)]) (by rw [List.getElem?_set_ne (by omega), List.getElem?_set_ne (by omega)]; exact h2)
   clear hiW hxW hgW c3W hU hB
   go_wp2_with (first | (refine wpList_load_mid rfl 97 _ rfl gm 0 rfl (MV ((ms.set (6 + t * 4 + p) (IntKind.i16.wrap n)).set t ((p : Int) + 1))) _ hUW.out.mom.row Tryz.underlying97 rfl (by rw [show (MV ((ms.set (6 + t * 4 + p) (IntKind.i16.wrap n)).set t ((p : Int) + 1))).length = 22 by simp [MV, hl]]; kernel_rfl) ?_))
   refine hsent.out.mono ?_
   rintro e W5 ⟨ms5, rfl, hl5, hf5, hB5⟩
   have h5 : Hid (AcdW w W5 gm gr ga ((ms.set (6 + t * 4 + p) (IntKind.i16.wrap n)).set t ((p : Int) + 1)) 2 (v : Int) n) := hUW.out.on hB5
   have hl5H : Hid (ms5.length = 22) := hl5
   have hf5H : Hid (∀ j, j < 6 → ms5[j]? = ((ms.set t ((p : Int) + 1)).set (3 + t) ((p : Int) + 1))[j]?) := fun j hj => (hf5 j hj).trans (first6 ht3 _ (by omega) _ j hj)
   clear hl5 hf5 hB5 hsent hUW
   go_wp2_with (first | (refine wpList_store_mid rfl 97 _ _ rfl gr 0 (MV ms5).toArray rfl rfl (by rw [show (MV ms5).toArray.size = 22 by simp [MV, hl5H.out]]; exact h5.out.th) (by rw [show (MV ms5).toArray.size = 22 by simp [MV, hl5H.out]]; kernel_rfl) (all_oneCell_toArray (fun v hv => by simp only [MV, List.mem_map] at hv; obtain ⟨q, _, rfl⟩ := hv; rfl)) ?_))
   refine bodyPost_ret (v := .agg (MV ms5).toArray) (results_cell_mid rfl _ _ gr (MV ms5) _ rfl (World.rangeAt_setCells_same W5 gr 0 (MV ms5) (by rw [show (MV ms5).length = 22 by simp [MV, hl5H.out]]; exact h5.out.th)) Tryz.underlying97 rfl (by rw [show (MV ms5).length = 22 by simp [MV, hl5H.out]]; kernel_rfl)) rfl ⟨ms5, rfl, hl5H.out, hf5H.out, below_setCells gr hsg.out (MV ms5) 0 W5 h5.out.hb⟩

set_option maxRecDepth 1000000 in
set_option maxHeartbeats 8000000 in
theorem acted_pass (x : LitL) (g t p : Nat) (v : Nat) (n : Int) (hv4 : v < 4) (ms : List Int) (ta : Option Addr) (tc : Nat) (w : World) (lo hi : Nat) (hh : hi ≤ w.heap.size) (hx : ListAt ThrR 1 true lo hi w (.slice ta x.thr.length tc) x.thr) (hg : g < w.heap.size) (hc : w.rangeAt g 0 [.int .i64 x.vars, .int .i64 x.vol, .int .i64 x.locks, .slice ta x.thr.length tc, .bool false]) (ht3 : t < 3) (hp4 : p ≤ 3) (ha : actAt x t p = some ⟨3, (v : Int), n⟩) (hl : ms.length = 22) (h1 : ms[t]? = some (p : Int)) (h2 : ms[3 + t]? = some (p : Int)) :
  Calls Tryz.prog 52 #[.pointer (some ⟨g, 0, none⟩), .agg (MV ms).toArray, .int .i64 (t : Int)] w fun e w' => ∃ ms', e = .returned (.agg (MV ms').toArray) ∧ ms'.length = 22 ∧ (∀ j, j < 6 → ms'[j]? = ((ms.set t ((p : Int) + 1)).set (3 + t) ((p : Int) + 1))[j]?) ∧ Below w.heap.size w w' := by
 obtain ⟨b1, o1, len, uc, b2, o2, rfl, ht, hk, hkc, hb1, hA⟩ := actAt_of hx hh ha
 have hac : Hid (actAt x t p = some ⟨3, (v : Int), n⟩) := ha
 have hpl : Hid (p ≤ (x.thr[t]).length) := by
  show _ ≤ _
  unfold actAt at ha
  rw [List.getElem?_eq_getElem ht] at ha
  have := (List.getElem?_eq_some_iff.1 ha).1
  omega
 obtain ⟨gm, hgm⟩ : ∃ gm, gm = w.heap.size := ⟨_, rfl⟩
 obtain ⟨gr, hgr⟩ : ∃ gr, gr = w.heap.size + 1 := ⟨_, rfl⟩
 obtain ⟨W0, hW0⟩ : ∃ W0 : World, W0 = (w.alloc (.cells (MV ms).toArray 97)).alloc (.cells #[.int .i16 0, .int .i16 0, .int .i16 0, .int .i16 0, .int .i16 0, .int .i16 0, .int .i16 0, .int .i16 0, .int .i16 0, .int .i16 0, .int .i16 0, .int .i16 0, .int .i16 0, .int .i16 0, .int .i16 0, .int .i16 0, .int .i16 0, .int .i16 0, .int .i16 0, .int .i16 0, .int .i16 0, .int .i16 0] 97) := ⟨_, rfl⟩
 have hb0 : Hid (Below w.heap.size w W0) := by show Below _ _ _; rw [hW0]; exact below_on (below_1 _ _) (below_1 _ _)
 have hm0 : Hid (MomW W0 gm ms) := by show MomW _ _ _; rw [hW0, hgm]; exact (momW_new hl _).on (by simp) (below_1 _ _)
 have hth0 : Hid (W0.there gr 0 22) := by
  show World.there _ _ _ _
  have := there_heap (show W0.heap[gr]? = some (.cells #[.int .i16 0, .int .i16 0, .int .i16 0, .int .i16 0, .int .i16 0, .int .i16 0, .int .i16 0, .int .i16 0, .int .i16 0, .int .i16 0, .int .i16 0, .int .i16 0, .int .i16 0, .int .i16 0, .int .i16 0, .int .i16 0, .int .i16 0, .int .i16 0, .int .i16 0, .int .i16 0, .int .i16 0, .int .i16 0] 97) by rw [hW0, hgr]; simpa using heap_alloc_new (w.alloc (.cells (MV ms).toArray 97)) (.cells #[.int .i16 0, .int .i16 0, .int .i16 0, .int .i16 0, .int .i16 0, .int .i16 0, .int .i16 0, .int .i16 0, .int .i16 0, .int .i16 0, .int .i16 0, .int .i16 0, .int .i16 0, .int .i16 0, .int .i16 0, .int .i16 0, .int .i16 0, .int .i16 0, .int .i16 0, .int .i16 0, .int .i16 0, .int .i16 0] 97))
  exact this
 have hsz : Hid (gr + 1 = W0.heap.size ∧ gm < gr ∧ w.heap.size = gm) := by show _ ∧ _; rw [hW0, hgr, hgm]; simp
 have hxk : Hid (∀ W, Below w.heap.size w W → hi ≤ W.heap.size ∧ ListAt ThrR 1 true lo hi W (.slice (some ⟨b1, o1, none⟩) x.thr.length tc) x.thr ∧ g < W.heap.size ∧ W.cell? ⟨g, 0, none⟩ = some (.int .i64 x.vars) ∧ W.cell? ⟨g, 1, none⟩ = some (.int .i64 x.vol) ∧ W.cell? ⟨g, 2, none⟩ = some (.int .i64 x.locks) ∧ W.cell? ⟨g, 3, none⟩ = some (.slice (some ⟨b1, o1, none⟩) x.thr.length tc) ∧ W.cell? ⟨g, 4, none⟩ = some (.bool false)) := fun W hW => by
  have := hW.size
  exact ⟨by omega, hx.kept ThrR.stable (Nat.le_refl _) (Nat.le_refl _) ((Same.below hW).mono (Nat.zero_le _) hh), by omega, (hW.cell (p := ⟨g, 0, none⟩) hg).trans (hc 0 _ rfl), (hW.cell (p := ⟨g, 1, none⟩) hg).trans (hc 1 _ rfl), (hW.cell (p := ⟨g, 2, none⟩) hg).trans (hc 2 _ rfl), (hW.cell (p := ⟨g, 3, none⟩) hg).trans (hc 3 _ rfl), (hW.cell (p := ⟨g, 4, none⟩) hg).trans (hc 4 _ rfl)⟩
 obtain ⟨c1, c2, c3, c4⟩ := hA W0 hb0.out
 have cg := (hxk.out W0 hb0.out).2.2.2.2.2.2.1
 have hnx : Hid (Calls Tryz.prog 51 #[.pointer (some ⟨gm, 0, none⟩), .int .i64 (t : Int)] W0 fun e w' => e = .returned (.int .i64 (p : Int)) ∧ w' = W0) := next_calls gm t p W0 ht3 (by omega) (hm0.out.at h1)
 have p1 : (t : Int) < x.thr.length := by omega
 have p2 : (p : Int) < len := by omega
 have p3 : (3 + (t : Int)) < 22 := by omega
 have p4 : (p : Int) ≤ 3 := by omega
 have p6 : (t : Int) < 22 := by omega
 have hw16 : IntKind.i16.wrap ((p : Int) + 1) = (p : Int) + 1 := by simp only [IntKind.wrap, IntKind.bits, IntKind.signed]; simp; split <;> omega
 clear hA hx ha hc
 go_enter Tryz.func52, Tryz.ntmps52
 go_wp2_with fail
 rw [← hW0, ← hgr, ← hgm]
 clear hW0 hgm hgr
 refine hnx.out.mono ?_
 rintro e w2 ⟨rfl, rfl⟩
 rename World => W0
 go_upto_region 3 with (fail)
 have hS : Hid (AcdW w (W0.alloc (.cells #[.int .i64 3, .int .i64 (v : Int), .int .i64 n] 60)) gm gr W0.heap.size ms 3 (v : Int) n) := by
  have e := heap_alloc_new W0 (.cells #[.int .i64 3, .int .i64 (v : Int), .int .i64 n] 60)
  have hr := rangeAt_heap e
  have hs := hsz.out
  refine ⟨hm0.out.on (by omega) (below_1 _ _), fun j hj => ?_, by simp, by simp, by simp, below_on hb0.out (below_1 _ _), ⟨by omega, by omega, by omega, by simp⟩⟩
  have hb := below_1 W0 (.cells #[.int .i64 3, .int .i64 (v : Int), .int .i64 n] 60)
  rw [hb.cell (p := ⟨gr, 0 + j, none⟩) (show gr < _ by omega), hb.frozen (p := ⟨gr, 0 + j, none⟩) (show gr < _ by omega)]
  exact hth0.out j hj
 clear c1 c2 c3 c4 cg hm0 hth0 hnx hb0 hsz
 generalize W0.alloc (.cells #[.int .i64 3, .int .i64 (v : Int), .int .i64 n] 60) = V at *
 generalize W0.heap.size = ga at *
 have hisw : isW ⟨3, (v : Int), n⟩ = true := rfl
 obtain ⟨_, _, q0, q1, q2, _, _⟩ := hS.out
 obtain ⟨lr, hlr0⟩ : ∃ lr, lr = (lrV (isR x t) (fun k => (ms[6 + t * 4 + k]?).getD 0) p) := ⟨_, rfl⟩
 have hlr : Hid (lr = (lrV (isR x t) (fun k => (ms[6 + t * 4 + k]?).getD 0) p)) := hlr0
 clear hlr0
 go_wp2_with fail
 refine wp_region_chain (by kernel_rfl) (fun vs => { tmps := #[.pointer (some ⟨g, 0, none⟩), .agg (MV ms).toArray, .int .i64 (t : Int), undef, .pointer (some ⟨gm, 0, none⟩), undef, .pointer (some ⟨gr, 0, none⟩), .int .i64 (p : Int), .pointer (some ⟨ga, 0, none⟩), .int .i64 (t : Int), .int .i64 (p : Int), .pointer (some ⟨g, 0, none⟩), .pointer (some ⟨g, 0, none⟩), .pointer (some ⟨g, 0, none⟩), .pointer (some ⟨g, 3, none⟩), .slice (some ⟨b1, o1, none⟩) x.thr.length tc, .int .i64 (t : Int), .pointer (some ⟨b1, o1 + t, none⟩), .slice (some ⟨b2, o2, none⟩) len uc, .int .i64 (p : Int), .pointer (some ⟨b2, o2 + p * 3, none⟩), .agg #[.int .i64 3, .int .i64 (v : Int), .int .i64 n], .pointer (some ⟨ga, 0, none⟩), .int .i64 3, .bool false, .bool false, undef, undef, undef, undef, undef, undef, undef, undef, undef, .bool false, .bool false, undef, undef, undef, undef, undef, undef, undef, .bool true, .bool true, vs 0, vs 1, vs 2, vs 3, vs 4, vs 5, vs 6, vs 7, vs 8, vs 9, vs 10, undef, undef, undef, undef, undef, undef, undef, undef, undef, undef, undef, undef, undef, undef, undef, undef, undef, undef, undef, undef, undef, undef, undef, undef, undef, undef, undef, undef, undef, undef, undef], defers := [] }) [] (lv1 [.int .i64 (t : Int), .int .i64 (p : Int), .pointer (some ⟨gm, 6 + t * 4 + p, none⟩), .pointer (some ⟨ga, 2, none⟩), .int .i64 n, .int .i16 (IntKind.i16.wrap n), .pointer (some ⟨g, 0, none⟩), .int .i64 (t : Int), .int .i16 lr, .int .i16 (IntKind.i16.wrap (IntKind.i16.wrap n + lr)), .pointer (some ⟨gm, 6 + t * 4 + p, none⟩)]) (fun _ _ W => Below V.heap.size V W) (fun i => undef) rfl (by kernel_rfl) ?_ (fun _ _ _ _ _ _ h => h) (allAt_all ⟨?_, ?_, ?_, ?_, ?_, ?_, ?_, ?_, ?_, ?_, ?_, ?_, trivial⟩) ?_ ?_
 case refine_1 => exact Below.drew (Below.refl _ _)
 case refine_2 =>
  intro _ _ k vs W hB hv
  clear hv
  go_wp2
  exact PurePost.mk' (.int .i64 (t : Int)) (by rfl) rfl
 case refine_3 =>
  intro _ _ k vs W hB hv
  clear hv
  go_wp2
  exact PurePost.mk' (.int .i64 (p : Int)) (by rfl) rfl
 case refine_4 =>
  intro _ _ k vs W hB hv
  have e0 : vs 0 = .int .i64 (t : Int) := hv ⟨0, .data⟩ (by simp) rfl (by decide)
  have e1 : vs 1 = .int .i64 (p : Int) := hv ⟨1, .data⟩ (by simp) rfl (by decide)
  have hcl : Hid (Calls Tryz.prog 75 #[.pointer (some ⟨gm, 0, none⟩), .int .i64 (t : Int), .int .i64 (p : Int)] W fun e w' => e = .returned (.pointer (some ⟨gm, 6 + t * 4 + p, none⟩)) ∧ w' = W) := value_calls gm t p W ht3 (by omega)
  clear hv
  simp only [e0, e1]
  go_wp2_with (go_at_call 75; refine (show Calls _ _ _ _ _ from hcl.out).mono ?_; rintro e w2 ⟨rfl, rfl⟩)
  exact PurePost.mk' (.pointer (some ⟨gm, 6 + t * 4 + p, none⟩)) (by first | (rw [← e0, ← e1]; rfl) | (simp [upd, e0, e1])) rfl
 case refine_5 =>
  intro _ _ k vs W hB hv
  clear hv
  go_wp2
  exact PurePost.mk' (.pointer (some ⟨ga, 2, none⟩)) (by rfl) rfl
 case refine_6 =>
  intro _ _ k vs W hB hv
  have e3 : vs 3 = .pointer (some ⟨ga, 2, none⟩) := hv ⟨3, .data⟩ (by simp) rfl (by decide)
  obtain ⟨_, _, _, _, r2, _, _⟩ := hS.out.on hB
  clear hv
  simp only [e3]
  go_wp2
  exact PurePost.mk' (.int .i64 n) (by first | (rw [← e3]; rfl) | (simp [upd, e3])) rfl
 case refine_7 =>
  intro _ _ k vs W hB hv
  have e4 : vs 4 = .int .i64 n := hv ⟨4, .data⟩ (by simp) rfl (by decide)
  clear hv
  simp only [e4]
  go_wp2
  exact PurePost.mk' (.int .i16 (IntKind.i16.wrap n)) (by first | (rw [← e4]; rfl) | (simp [upd, e4])) rfl
 case refine_8 =>
  intro _ _ k vs W hB hv
  clear hv
  go_wp2
  exact PurePost.mk' (.pointer (some ⟨g, 0, none⟩)) (by rfl) rfl
 case refine_9 =>
  intro _ _ k vs W hB hv
  clear hv
  go_wp2
  exact PurePost.mk' (.int .i64 (t : Int)) (by rfl) rfl
 case refine_10 =>
  intro _ _ k vs W hB hv
  have e6 : vs 6 = .pointer (some ⟨g, 0, none⟩) := hv ⟨6, .data⟩ (by simp) rfl (by decide)
  have e7 : vs 7 = .int .i64 (t : Int) := hv ⟨7, .data⟩ (by simp) rfl (by decide)
  obtain ⟨hiW, hxW, hgW, _, _, _, c3W, _⟩ := hxk.out W (hS.out.on hB).hb
  have hcl : Hid (Calls Tryz.prog 76 #[.pointer (some ⟨g, 0, none⟩), .pointer (some ⟨gm, 0, none⟩), .int .i64 (t : Int)] W fun e w' => e = .returned (.int .i16 lr) ∧ w' = W) := by rw [hlr.out]; exact lastRead_calls x g gm t p ms _ tc W _ _ hiW hxW hgW c3W ht3 ht (by omega) hpl.out (hS.out.on hB).mom h1
  clear hiW hxW hgW c3W
  clear hv
  simp only [e6, e7]
  go_wp2_with (go_at_call 76; refine (show Calls _ _ _ _ _ from hcl.out).mono ?_; rintro e w2 ⟨rfl, rfl⟩)
  exact PurePost.mk' (.int .i16 lr) (by first | (rw [← e6, ← e7]; rfl) | (simp [upd, e6, e7])) rfl
 case refine_11 =>
  intro _ _ k vs W hB hv
  have e5 : vs 5 = .int .i16 (IntKind.i16.wrap n) := hv ⟨5, .data⟩ (by simp) rfl (by decide)
  have e8 : vs 8 = .int .i16 lr := hv ⟨8, .data⟩ (by simp) rfl (by decide)
  clear hv
  simp only [e5, e8]
  go_wp2
  exact PurePost.mk' (.int .i16 (IntKind.i16.wrap (IntKind.i16.wrap n + lr))) (by first | (rw [← e5, ← e8]; rfl) | (simp [upd, e5, e8])) rfl
 case refine_12 =>
  intro _ _ k vs W hB hv
  have e2 : vs 2 = .pointer (some ⟨gm, 6 + t * 4 + p, none⟩) := hv ⟨2, .data⟩ (by simp) rfl (by decide)
  clear hv
  simp only [e2]
  go_wp2
  exact PurePost.mk' (.pointer (some ⟨gm, 6 + t * 4 + p, none⟩)) (by first | (rw [← e2]; rfl) | (simp [upd, e2])) rfl
 case refine_13 => exact fun _ h => absurd h (by simp)
 case refine_14 =>
  intro k q o hq
  simp at hq
 case refine_15 =>
  intro o ho vs W hB hv
  obtain rfl := Option.some.inj ho
  have e0 : vs 0 = .int .i64 (t : Int) := hv 0 (by simp) (by simp)
  have e1 : vs 1 = .int .i64 (p : Int) := hv 1 (by simp) (by simp)
  have e2 : vs 2 = .pointer (some ⟨gm, 6 + t * 4 + p, none⟩) := hv 2 (by simp) (by simp)
  have e3 : vs 3 = .pointer (some ⟨ga, 2, none⟩) := hv 3 (by simp) (by simp)
  have e4 : vs 4 = .int .i64 n := hv 4 (by simp) (by simp)
  have e5 : vs 5 = .int .i16 (IntKind.i16.wrap n) := hv 5 (by simp) (by simp)
  have e6 : vs 6 = .pointer (some ⟨g, 0, none⟩) := hv 6 (by simp) (by simp)
  have e7 : vs 7 = .int .i64 (t : Int) := hv 7 (by simp) (by simp)
  have e8 : vs 8 = .int .i16 lr := hv 8 (by simp) (by simp)
  have e9 : vs 9 = .int .i16 (IntKind.i16.wrap (IntKind.i16.wrap n + lr)) := hv 9 (by simp) (by simp)
  have e10 : vs 10 = .pointer (some ⟨gm, 6 + t * 4 + p, none⟩) := hv 10 (by simp) (by simp)
  have hSW := hS.out.on hB
  have u1 := hSW.mom.at (List.getElem?_eq_getElem (show 6 + t * 4 + p < ms.length by omega))
  have u2 := hSW.mom.fr (show 6 + t * 4 + p < 22 by omega)
  clear hv
  simp only [e0, e1, e2, e3, e4, e5, e6, e7, e8, e9, e10]
  clear e0 e1 e2 e3 e4 e5 e6 e7 e8 e9 e10
  go_upto_region 10 with (fail)
  have hT : Hid (AcdW w (W.setCell ⟨gm, 6 + t * 4 + p, none⟩ (.int .i16 (IntKind.i16.wrap (IntKind.i16.wrap n + lr)))) gm gr ga (ms.set (6 + t * 4 + p) (IntKind.i16.wrap (IntKind.i16.wrap n + lr))) 3 (v : Int) n) := hSW.set (6 + t * 4 + p) (by omega) _
  clear u1 u2 hSW hB hS q0 q1 q2
  generalize W.setCell ⟨gm, 6 + t * 4 + p, none⟩ (.int .i16 (IntKind.i16.wrap (IntKind.i16.wrap n + lr))) = V1 at *
  have u1 := hT.out.mom.at (show (ms.set (6 + t * 4 + p) (IntKind.i16.wrap (IntKind.i16.wrap n + lr)))[t]? = some (p : Int) from by rw [List.getElem?_set_ne (by omega)]; exact h1)
  have u2 := hT.out.mom.fr (show t < 22 by omega)
  go_upto_region 11 with (fail)
  have hU : Hid (AcdW w (V1.setCell ⟨gm, t, none⟩ (.int .i16 ((p : Int) + 1))) gm gr ga ((ms.set (6 + t * 4 + p) (IntKind.i16.wrap (IntKind.i16.wrap n + lr))).set t ((p : Int) + 1)) 3 (v : Int) n) := hT.out.set t (by omega) _
  clear u1 u2 hT
  generalize V1.setCell ⟨gm, t, none⟩ (.int .i16 ((p : Int) + 1)) = V2 at *
  refine wp_region_own (by kernel_rfl) (fun vs => { tmps := #[.pointer (some ⟨g, 0, none⟩), .agg (MV ms).toArray, .int .i64 (t : Int), undef, .pointer (some ⟨gm, 0, none⟩), undef, .pointer (some ⟨gr, 0, none⟩), .int .i64 (p : Int), .pointer (some ⟨ga, 0, none⟩), .int .i64 (t : Int), .int .i64 (p : Int), .pointer (some ⟨g, 0, none⟩), .pointer (some ⟨g, 0, none⟩), .pointer (some ⟨g, 0, none⟩), .pointer (some ⟨g, 3, none⟩), .slice (some ⟨b1, o1, none⟩) x.thr.length tc, .int .i64 (t : Int), .pointer (some ⟨b1, o1 + t, none⟩), .slice (some ⟨b2, o2, none⟩) len uc, .int .i64 (p : Int), .pointer (some ⟨b2, o2 + p * 3, none⟩), .agg #[.int .i64 3, .int .i64 (v : Int), .int .i64 n], .pointer (some ⟨ga, 0, none⟩), .int .i64 3, .bool false, .bool false, undef, undef, undef, undef, undef, undef, undef, undef, undef, .bool false, .bool false, undef, undef, undef, undef, undef, undef, undef, .bool true, .bool true, .int .i64 (t : Int), .int .i64 (p : Int), .pointer (some ⟨gm, 6 + t * 4 + p, none⟩), .pointer (some ⟨ga, 2, none⟩), .int .i64 n, .int .i16 (IntKind.i16.wrap n), .pointer (some ⟨g, 0, none⟩), .int .i64 (t : Int), .int .i16 lr, .int .i16 (IntKind.i16.wrap (IntKind.i16.wrap n + lr)), .pointer (some ⟨gm, 6 + t * 4 + p, none⟩), .int .i64 (t : Int), .int .i64 (t : Int), .pointer (some ⟨gm, t, none⟩), .int .i16 (p : Int), .int .i16 ((p : Int) + 1), .pointer (some ⟨gm, t, none⟩), vs 0, vs 1, vs 2, vs 3, vs 4, vs 5, vs 6, vs 7, vs 8, vs 9, vs 10, vs 11, vs 12, vs 13, vs 14, vs 15, vs 16, undef, undef, undef, undef, undef, undef, undef, undef], defers := [] }) (lv [.agg #[.int .i64 3, .int .i64 (v : Int), .int .i64 n], .bool true, .bool true, .pointer (some ⟨g, 0, none⟩), .pointer (some ⟨g, 0, none⟩), .pointer (some ⟨g, 4, none⟩), .bool false, .bool false, undef, undef, undef, undef, undef, undef, .bool false, .bool true, .bool true]) (fun i => undef) rfl (fun _ _ _ _ _ _ _ _ h => h) (allAt_all ⟨?_, ?_, ?_, ?_, ?_, ?_, ?_, ?_, ?_, ?_, ?_, ?_, ?_, ?_, ?_, ?_, ?_, trivial⟩) ?_ (regForward_done (by kernel_rfl))
  case refine_1 =>
   intro vs lo hi W hB hv
   obtain ⟨_, _, r0, r1, r2, _, _⟩ := hU.out.on hB
   obtain ⟨_, _, _, _, _, _, _, cg4⟩ := hxk.out W (hU.out.on hB).hb
   clear hv
   go_wp2
   exact ⟨.agg #[.int .i64 3, .int .i64 (v : Int), .int .i64 n], by rfl, Below.refl _ _, rfl⟩
  case refine_2 =>
   intro vs lo hi W hB hv
   have e0 : vs 0 = .agg #[.int .i64 3, .int .i64 (v : Int), .int .i64 n] := ((hv ⟨0, .data⟩ (by simp) rfl).1)
   have hcl : Hid (Calls Tryz.prog 77 #[.agg #[.int .i64 3, .int .i64 (v : Int), .int .i64 n]] W fun e w' => e = .returned (.bool (isW ⟨3, (v : Int), n⟩)) ∧ Below W.heap.size W w') := isWrite_calls ⟨3, (v : Int), n⟩ W
   clear hv
   simp only [e0]
   go_wp2_with (go_at_call 77; refine (show Calls _ _ _ _ _ from hcl.out).mono ?_; rintro e w2 ⟨rfl, hb2⟩; rw [hisw])
   exact ⟨.bool true, by first | (rw [← e0]; rfl) | (simp [upd, e0]), hb2, rfl⟩
  case refine_3 =>
   intro vs lo hi W hB hv
   have e1 : vs 1 = .bool true := ((hv ⟨1, .data⟩ (by simp) rfl).1)
   clear hv
   simp only [e1]
   go_wp2
   exact ⟨.bool true, by first | (rw [← e1]; rfl) | (simp [upd, e1]), Below.refl _ _, rfl⟩
  case refine_4 =>
   intro vs lo hi W hB hv
   have e2 : vs 2 = .bool true := ((hv ⟨2, .guard⟩ (by simp) rfl).1)
   clear hv
   simp only [e2]
   go_wp2
   exact ⟨.pointer (some ⟨g, 0, none⟩), by first | (rw [← e2]; rfl) | (simp [upd, e2]), Below.refl _ _, rfl⟩
  case refine_5 =>
   intro vs lo hi W hB hv
   have e3 : vs 3 = .pointer (some ⟨g, 0, none⟩) := ((hv ⟨3, .data⟩ (by simp) rfl).1)
   have e2 : vs 2 = .bool true := ((hv ⟨2, .guard⟩ (by simp) rfl).1)
   clear hv
   simp only [e3, e2]
   go_wp2
   exact ⟨.pointer (some ⟨g, 0, none⟩), by first | (rw [← e3, ← e2]; rfl) | (simp [upd, e3, e2]), Below.refl _ _, rfl⟩
  case refine_6 =>
   intro vs lo hi W hB hv
   have e4 : vs 4 = .pointer (some ⟨g, 0, none⟩) := ((hv ⟨4, .data⟩ (by simp) rfl).1)
   have e2 : vs 2 = .bool true := ((hv ⟨2, .guard⟩ (by simp) rfl).1)
   clear hv
   simp only [e4, e2]
   go_wp2
   exact ⟨.pointer (some ⟨g, 4, none⟩), by first | (rw [← e4, ← e2]; rfl) | (simp [upd, e4, e2]), Below.refl _ _, rfl⟩
  case refine_7 =>
   intro vs lo hi W hB hv
   have e5 : vs 5 = .pointer (some ⟨g, 4, none⟩) := ((hv ⟨5, .data⟩ (by simp) rfl).1)
   have e2 : vs 2 = .bool true := ((hv ⟨2, .guard⟩ (by simp) rfl).1)
   obtain ⟨_, _, r0, r1, r2, _, _⟩ := hU.out.on hB
   obtain ⟨_, _, _, _, _, _, _, cg4⟩ := hxk.out W (hU.out.on hB).hb
   clear hv
   simp only [e5, e2]
   go_wp2
   exact ⟨.bool false, by first | (rw [← e5, ← e2]; rfl) | (simp [upd, e5, e2]), Below.refl _ _, rfl⟩
  case refine_8 =>
   intro vs lo hi W hB hv
   have e6 : vs 6 = .bool false := ((hv ⟨6, .data⟩ (by simp) rfl).1)
   have e2 : vs 2 = .bool true := ((hv ⟨2, .chain⟩ (by simp) rfl).1)
   clear hv
   simp only [e6, e2]
   go_wp2
   exact ⟨.bool false, by first | (rw [← e6, ← e2]; rfl) | (simp [upd, e6, e2]), Below.refl _ _, rfl⟩
  case refine_9 =>
   intro vs lo hi W hB hv
   have e7 : vs 7 = .bool false := ((hv ⟨7, .guard⟩ (by simp) rfl).1)
   clear hv
   simp only [e7]
   go_wp2
   exact ⟨undef, by rw [← e7]; rfl, Below.refl _ _, rfl⟩
  case refine_10 =>
   intro vs lo hi W hB hv
   have e7 : vs 7 = .bool false := ((hv ⟨7, .guard⟩ (by simp) rfl).1)
   clear hv
   simp only [e7]
   go_wp2
   exact ⟨undef, by rw [← e7]; rfl, Below.refl _ _, rfl⟩
  case refine_11 =>
   intro vs lo hi W hB hv
   have e7 : vs 7 = .bool false := ((hv ⟨7, .guard⟩ (by simp) rfl).1)
   clear hv
   simp only [e7]
   go_wp2
   exact ⟨undef, by rw [← e7]; rfl, Below.refl _ _, rfl⟩
  case refine_12 =>
   intro vs lo hi W hB hv
   have e7 : vs 7 = .bool false := ((hv ⟨7, .guard⟩ (by simp) rfl).1)
   clear hv
   simp only [e7]
   go_wp2
   exact ⟨undef, by rw [← e7]; rfl, Below.refl _ _, rfl⟩
  case refine_13 =>
   intro vs lo hi W hB hv
   have e7 : vs 7 = .bool false := ((hv ⟨7, .guard⟩ (by simp) rfl).1)
   clear hv
   simp only [e7]
   go_wp2
   exact ⟨undef, by rw [← e7]; rfl, Below.refl _ _, rfl⟩
  case refine_14 =>
   intro vs lo hi W hB hv
   have e7 : vs 7 = .bool false := ((hv ⟨7, .chain⟩ (by simp) rfl).1)
   clear hv
   simp only [e7]
   go_wp2
   exact ⟨undef, by rw [← e7]; rfl, Below.refl _ _, rfl⟩
  case refine_15 =>
   intro vs lo hi W hB hv
   have e7 : vs 7 = .bool false := ((hv ⟨7, .data⟩ (by simp) rfl).1)
   have e13 : vs 13 = undef := ((hv ⟨13, .data⟩ (by simp) rfl).1)
   have e2 : vs 2 = .bool true := ((hv ⟨2, .guard⟩ (by simp) rfl).1)
   clear hv
   simp only [e7, e13, e2]
   go_wp2
   exact ⟨.bool false, by first | (rw [← e7, ← e13, ← e2]; rfl) | (simp [upd, e7, e13, e2]), Below.refl _ _, rfl⟩
  case refine_16 =>
   intro vs lo hi W hB hv
   have e14 : vs 14 = .bool false := ((hv ⟨14, .data⟩ (by simp) rfl).1)
   have e2 : vs 2 = .bool true := ((hv ⟨2, .guard⟩ (by simp) rfl).1)
   clear hv
   simp only [e14, e2]
   go_wp2
   exact ⟨.bool true, by first | (rw [← e14, ← e2]; rfl) | (simp [upd, e14, e2]), Below.refl _ _, rfl⟩
  case refine_17 =>
   intro vs lo hi W hB hv
   have e2 : vs 2 = .bool true := ((hv ⟨2, .data⟩ (by simp) rfl).1)
   have e15 : vs 15 = .bool true := ((hv ⟨15, .data⟩ (by simp) rfl).1)
   clear hv
   simp only [e2, e15]
   go_wp2
   exact ⟨.bool true, by first | (rw [← e2, ← e15]; rfl) | (simp [upd, e2, e15]), Below.refl _ _, rfl⟩
  case refine_18 =>
   intro vs lo hi W hB hv _ _
   have e0 : vs 0 = .agg #[.int .i64 3, .int .i64 (v : Int), .int .i64 n] := (hv 0 (by simp))
   have e1 : vs 1 = .bool true := (hv 1 (by simp))
   have e2 : vs 2 = .bool true := (hv 2 (by simp))
   have e3 : vs 3 = .pointer (some ⟨g, 0, none⟩) := (hv 3 (by simp))
   have e4 : vs 4 = .pointer (some ⟨g, 0, none⟩) := (hv 4 (by simp))
   have e5 : vs 5 = .pointer (some ⟨g, 4, none⟩) := (hv 5 (by simp))
   have e6 : vs 6 = .bool false := (hv 6 (by simp))
   have e7 : vs 7 = .bool false := (hv 7 (by simp))
   have e14 : vs 14 = .bool false := (hv 14 (by simp))
   have e15 : vs 15 = .bool true := (hv 15 (by simp))
   have e16 : vs 16 = .bool true := (hv 16 (by simp))
   clear hv
   simp only [e0, e1, e2, e3, e4, e5, e6, e7, e14, e15, e16]
   have hUW : Hid (AcdW w W gm gr ga ((ms.set (6 + t * 4 + p) (IntKind.i16.wrap (IntKind.i16.wrap n + lr))).set t ((p : Int) + 1)) 3 (v : Int) n) := hU.out.on hB
   obtain ⟨hiW, hxW, hgW, _, _, _, c3W, _⟩ := hxk.out W hUW.out.hb
   have hsg : Hid (w.heap.size ≤ gr) := by have := hUW.out.sz; show _ ≤ _; omega
   have hsent : Hid (Calls Tryz.prog 78 #[.pointer (some ⟨g, 0, none⟩), .agg (MV ((ms.set (6 + t * 4 + p) (IntKind.i16.wrap (IntKind.i16.wrap n + lr))).set t ((p : Int) + 1))).toArray, .int .i64 (t : Int)] W fun e w' => ∃ ms', e = .returned (.agg (MV ms').toArray) ∧ ms'.length = 22 ∧ (∀ j, j < 6 → ms'[j]? = (((ms.set (6 + t * 4 + p) (IntKind.i16.wrap (IntKind.i16.wrap n + lr))).set t ((p : Int) + 1)).set (3 + t) ((p : Int) + 1))[j]?) ∧ Below W.heap.size W w') := sent_calls x ⟨3, (v : Int), n⟩ g t p v ((ms.set (6 + t * 4 + p) (IntKind.i16.wrap (IntKind.i16.wrap n + lr))).set t ((p : Int) + 1)) _ tc W _ _ hiW hxW hgW c3W ht3 hp4 hac.out rfl hv4 (by simp [hl]) (by rw [List.getElem?_set_self (by first | (simp; omega) | omega)]) (by rw [List.getElem?_set_ne (by omega), List.getElem?_set_ne (by omega)]; exact h2)
   clear hiW hxW hgW c3W hU hB
   go_wp2_with (first | (refine wpList_load_mid rfl 97 _ rfl gm 0 rfl (MV ((ms.set (6 + t * 4 + p) (IntKind.i16.wrap (IntKind.i16.wrap n + lr))).set t ((p : Int) + 1))) _ hUW.out.mom.row Tryz.underlying97 rfl (by rw [show (MV ((ms.set (6 + t * 4 + p) (IntKind.i16.wrap (IntKind.i16.wrap n + lr))).set t ((p : Int) + 1))).length = 22 by simp [MV, hl]]; kernel_rfl) ?_))
   refine hsent.out.mono ?_
   rintro e W5 ⟨ms5, rfl, hl5, hf5, hB5⟩
   have h5 : Hid (AcdW w W5 gm gr ga ((ms.set (6 + t * 4 + p) (IntKind.i16.wrap (IntKind.i16.wrap n + lr))).set t ((p : Int) + 1)) 3 (v : Int) n) := hUW.out.on hB5
   have hl5H : Hid (ms5.length = 22) := hl5
   have hf5H : Hid (∀ j, j < 6 → ms5[j]? = ((ms.set t ((p : Int) + 1)).set (3 + t) ((p : Int) + 1))[j]?) := fun j hj => (hf5 j hj).trans (first6 ht3 _ (by omega) _ j hj)
   clear hl5 hf5 hB5 hsent hUW
   go_wp2_with (first | (refine wpList_store_mid rfl 97 _ _ rfl gr 0 (MV ms5).toArray rfl rfl (by rw [show (MV ms5).toArray.size = 22 by simp [MV, hl5H.out]]; exact h5.out.th) (by rw [show (MV ms5).toArray.size = 22 by simp [MV, hl5H.out]]; kernel_rfl) (all_oneCell_toArray (fun v hv => by simp only [MV, List.mem_map] at hv; obtain ⟨q, _, rfl⟩ := hv; rfl)) ?_))
   refine bodyPost_ret (v := .agg (MV ms5).toArray) (results_cell_mid rfl _ _ gr (MV ms5) _ rfl (World.rangeAt_setCells_same W5 gr 0 (MV ms5) (by rw [show (MV ms5).length = 22 by simp [MV, hl5H.out]]; exact h5.out.th)) Tryz.underlying97 rfl (by rw [show (MV ms5).length = 22 by simp [MV, hl5H.out]]; kernel_rfl)) rfl ⟨ms5, rfl, hl5H.out, hf5H.out, below_setCells gr hsg.out (MV ms5) 0 W5 h5.out.hb⟩

set_option maxRecDepth 1000000 in
set_option maxHeartbeats 8000000 in
theorem acted_lock (x : LitL) (g t p : Nat) (k v n : Int) (hkd : k = 4 ∨ k = 5) (ms : List Int) (ta : Option Addr) (tc : Nat) (w : World) (lo hi : Nat) (hh : hi ≤ w.heap.size) (hx : ListAt ThrR 1 true lo hi w (.slice ta x.thr.length tc) x.thr) (hg : g < w.heap.size) (hc : w.rangeAt g 0 [.int .i64 x.vars, .int .i64 x.vol, .int .i64 x.locks, .slice ta x.thr.length tc, .bool false]) (ht3 : t < 3) (hp4 : p ≤ 3) (ha : actAt x t p = some ⟨k, v, n⟩) (hl : ms.length = 22) (h1 : ms[t]? = some (p : Int)) (h2 : ms[3 + t]? = some (p : Int)) :
  Calls Tryz.prog 52 #[.pointer (some ⟨g, 0, none⟩), .agg (MV ms).toArray, .int .i64 (t : Int)] w fun e w' => ∃ ms', e = .returned (.agg (MV ms').toArray) ∧ ms'.length = 22 ∧ (∀ j, j < 6 → ms'[j]? = ((ms.set t ((p : Int) + 1)).set (3 + t) ((p : Int) + 1))[j]?) ∧ Below w.heap.size w w' := by
 obtain ⟨b1, o1, len, uc, b2, o2, rfl, ht, hk, hkc, hb1, hA⟩ := actAt_of hx hh ha
 have hac : Hid (actAt x t p = some ⟨k, v, n⟩) := ha
 have hpl : Hid (p ≤ (x.thr[t]).length) := by
  show _ ≤ _
  unfold actAt at ha
  rw [List.getElem?_eq_getElem ht] at ha
  have := (List.getElem?_eq_some_iff.1 ha).1
  omega
 obtain ⟨gm, hgm⟩ : ∃ gm, gm = w.heap.size := ⟨_, rfl⟩
 obtain ⟨gr, hgr⟩ : ∃ gr, gr = w.heap.size + 1 := ⟨_, rfl⟩
 obtain ⟨W0, hW0⟩ : ∃ W0 : World, W0 = (w.alloc (.cells (MV ms).toArray 97)).alloc (.cells #[.int .i16 0, .int .i16 0, .int .i16 0, .int .i16 0, .int .i16 0, .int .i16 0, .int .i16 0, .int .i16 0, .int .i16 0, .int .i16 0, .int .i16 0, .int .i16 0, .int .i16 0, .int .i16 0, .int .i16 0, .int .i16 0, .int .i16 0, .int .i16 0, .int .i16 0, .int .i16 0, .int .i16 0, .int .i16 0] 97) := ⟨_, rfl⟩
 have hb0 : Hid (Below w.heap.size w W0) := by show Below _ _ _; rw [hW0]; exact below_on (below_1 _ _) (below_1 _ _)
 have hm0 : Hid (MomW W0 gm ms) := by show MomW _ _ _; rw [hW0, hgm]; exact (momW_new hl _).on (by simp) (below_1 _ _)
 have hth0 : Hid (W0.there gr 0 22) := by
  show World.there _ _ _ _
  have := there_heap (show W0.heap[gr]? = some (.cells #[.int .i16 0, .int .i16 0, .int .i16 0, .int .i16 0, .int .i16 0, .int .i16 0, .int .i16 0, .int .i16 0, .int .i16 0, .int .i16 0, .int .i16 0, .int .i16 0, .int .i16 0, .int .i16 0, .int .i16 0, .int .i16 0, .int .i16 0, .int .i16 0, .int .i16 0, .int .i16 0, .int .i16 0, .int .i16 0] 97) by rw [hW0, hgr]; simpa using heap_alloc_new (w.alloc (.cells (MV ms).toArray 97)) (.cells #[.int .i16 0, .int .i16 0, .int .i16 0, .int .i16 0, .int .i16 0, .int .i16 0, .int .i16 0, .int .i16 0, .int .i16 0, .int .i16 0, .int .i16 0, .int .i16 0, .int .i16 0, .int .i16 0, .int .i16 0, .int .i16 0, .int .i16 0, .int .i16 0, .int .i16 0, .int .i16 0, .int .i16 0, .int .i16 0] 97))
  exact this
 have hsz : Hid (gr + 1 = W0.heap.size ∧ gm < gr ∧ w.heap.size = gm) := by show _ ∧ _; rw [hW0, hgr, hgm]; simp
 have hxk : Hid (∀ W, Below w.heap.size w W → hi ≤ W.heap.size ∧ ListAt ThrR 1 true lo hi W (.slice (some ⟨b1, o1, none⟩) x.thr.length tc) x.thr ∧ g < W.heap.size ∧ W.cell? ⟨g, 0, none⟩ = some (.int .i64 x.vars) ∧ W.cell? ⟨g, 1, none⟩ = some (.int .i64 x.vol) ∧ W.cell? ⟨g, 2, none⟩ = some (.int .i64 x.locks) ∧ W.cell? ⟨g, 3, none⟩ = some (.slice (some ⟨b1, o1, none⟩) x.thr.length tc) ∧ W.cell? ⟨g, 4, none⟩ = some (.bool false)) := fun W hW => by
  have := hW.size
  exact ⟨by omega, hx.kept ThrR.stable (Nat.le_refl _) (Nat.le_refl _) ((Same.below hW).mono (Nat.zero_le _) hh), by omega, (hW.cell (p := ⟨g, 0, none⟩) hg).trans (hc 0 _ rfl), (hW.cell (p := ⟨g, 1, none⟩) hg).trans (hc 1 _ rfl), (hW.cell (p := ⟨g, 2, none⟩) hg).trans (hc 2 _ rfl), (hW.cell (p := ⟨g, 3, none⟩) hg).trans (hc 3 _ rfl), (hW.cell (p := ⟨g, 4, none⟩) hg).trans (hc 4 _ rfl)⟩
 obtain ⟨c1, c2, c3, c4⟩ := hA W0 hb0.out
 have cg := (hxk.out W0 hb0.out).2.2.2.2.2.2.1
 have hnx : Hid (Calls Tryz.prog 51 #[.pointer (some ⟨gm, 0, none⟩), .int .i64 (t : Int)] W0 fun e w' => e = .returned (.int .i64 (p : Int)) ∧ w' = W0) := next_calls gm t p W0 ht3 (by omega) (hm0.out.at h1)
 have p1 : (t : Int) < x.thr.length := by omega
 have p2 : (p : Int) < len := by omega
 have p3 : (3 + (t : Int)) < 22 := by omega
 have p4 : (p : Int) ≤ 3 := by omega
 have p6 : (t : Int) < 22 := by omega
 have hw16 : IntKind.i16.wrap ((p : Int) + 1) = (p : Int) + 1 := by simp only [IntKind.wrap, IntKind.bits, IntKind.signed]; simp; split <;> omega
 clear hA hx ha hc
 go_enter Tryz.func52, Tryz.ntmps52
 go_wp2_with fail
 rw [← hW0, ← hgr, ← hgm]
 clear hW0 hgm hgr
 refine hnx.out.mono ?_
 rintro e w2 ⟨rfl, rfl⟩
 rename World => W0
 go_upto_region 3 with (fail)
 have hS : Hid (AcdW w (W0.alloc (.cells #[.int .i64 k, .int .i64 v, .int .i64 n] 60)) gm gr W0.heap.size ms k v n) := by
  have e := heap_alloc_new W0 (.cells #[.int .i64 k, .int .i64 v, .int .i64 n] 60)
  have hr := rangeAt_heap e
  have hs := hsz.out
  refine ⟨hm0.out.on (by omega) (below_1 _ _), fun j hj => ?_, by simp, by simp, by simp, below_on hb0.out (below_1 _ _), ⟨by omega, by omega, by omega, by simp⟩⟩
  have hb := below_1 W0 (.cells #[.int .i64 k, .int .i64 v, .int .i64 n] 60)
  rw [hb.cell (p := ⟨gr, 0 + j, none⟩) (show gr < _ by omega), hb.frozen (p := ⟨gr, 0 + j, none⟩) (show gr < _ by omega)]
  exact hth0.out j hj
 clear c1 c2 c3 c4 cg hm0 hth0 hnx hb0 hsz
 generalize W0.alloc (.cells #[.int .i64 k, .int .i64 v, .int .i64 n] 60) = V at *
 generalize W0.heap.size = ga at *
 have hisw : isW ⟨k, v, n⟩ = false := by rcases hkd with rfl | rfl <;> rfl
 obtain ⟨_, _, q0, q1, q2, _, _⟩ := hS.out
 have hT : Hid (AcdW w V gm gr ga ms k v n) := hS
 have hk1 : (k == 1) = false := by rcases hkd with rfl | rfl <;> rfl
 have hk2 : (k == 2) = false := by rcases hkd with rfl | rfl <;> rfl
 have hk3 : (k == 3) = false := by rcases hkd with rfl | rfl <;> rfl
 clear hkd
 go_upto_region 10 with (fail)
 clear hS q0 q1 q2
 generalize V = V1 at *
 have u1 := hT.out.mom.at (show ms[t]? = some (p : Int) from h1)
 have u2 := hT.out.mom.fr (show t < 22 by omega)
 go_upto_region 11 with (fail)
 have hU : Hid (AcdW w (V1.setCell ⟨gm, t, none⟩ (.int .i16 ((p : Int) + 1))) gm gr ga (ms.set t ((p : Int) + 1)) k v n) := hT.out.set t (by omega) _
 clear u1 u2 hT
 generalize V1.setCell ⟨gm, t, none⟩ (.int .i16 ((p : Int) + 1)) = V2 at *
 refine wp_region_own (by kernel_rfl) (fun vs => { tmps := #[.pointer (some ⟨g, 0, none⟩), .agg (MV ms).toArray, .int .i64 (t : Int), undef, .pointer (some ⟨gm, 0, none⟩), undef, .pointer (some ⟨gr, 0, none⟩), .int .i64 (p : Int), .pointer (some ⟨ga, 0, none⟩), .int .i64 (t : Int), .int .i64 (p : Int), .pointer (some ⟨g, 0, none⟩), .pointer (some ⟨g, 0, none⟩), .pointer (some ⟨g, 0, none⟩), .pointer (some ⟨g, 3, none⟩), .slice (some ⟨b1, o1, none⟩) x.thr.length tc, .int .i64 (t : Int), .pointer (some ⟨b1, o1 + t, none⟩), .slice (some ⟨b2, o2, none⟩) len uc, .int .i64 (p : Int), .pointer (some ⟨b2, o2 + p * 3, none⟩), .agg #[.int .i64 k, .int .i64 v, .int .i64 n], .pointer (some ⟨ga, 0, none⟩), .int .i64 k, .bool false, .bool false, undef, undef, undef, undef, undef, undef, undef, undef, undef, .bool false, .bool false, undef, undef, undef, undef, undef, undef, undef, .bool false, .bool false, undef, undef, undef, undef, undef, undef, undef, undef, undef, undef, undef, .int .i64 (t : Int), .int .i64 (t : Int), .pointer (some ⟨gm, t, none⟩), .int .i16 (p : Int), .int .i16 ((p : Int) + 1), .pointer (some ⟨gm, t, none⟩), vs 0, vs 1, vs 2, vs 3, vs 4, vs 5, vs 6, vs 7, vs 8, vs 9, vs 10, vs 11, vs 12, vs 13, vs 14, vs 15, vs 16, undef, undef, undef, undef, undef, undef, undef, undef], defers := [] }) (lv [.agg #[.int .i64 k, .int .i64 v, .int .i64 n], .bool false, .bool false, undef, undef, undef, undef, undef, undef, undef, undef, undef, undef, undef, undef, undef, .bool false]) (fun i => undef) rfl (fun _ _ _ _ _ _ _ _ h => h) (allAt_all ⟨?_, ?_, ?_, ?_, ?_, ?_, ?_, ?_, ?_, ?_, ?_, ?_, ?_, ?_, ?_, ?_, ?_, trivial⟩) ?_ (regForward_done (by kernel_rfl))
 case refine_1 =>
  intro vs lo hi W hB hv
  obtain ⟨_, _, r0, r1, r2, _, _⟩ := hU.out.on hB
  obtain ⟨_, _, _, _, _, _, _, cg4⟩ := hxk.out W (hU.out.on hB).hb
  clear hv
  go_wp2
  exact ⟨.agg #[.int .i64 k, .int .i64 v, .int .i64 n], by rfl, Below.refl _ _, rfl⟩
 case refine_2 =>
  intro vs lo hi W hB hv
  have e0 : vs 0 = .agg #[.int .i64 k, .int .i64 v, .int .i64 n] := ((hv ⟨0, .data⟩ (by simp) rfl).1)
  have hcl : Hid (Calls Tryz.prog 77 #[.agg #[.int .i64 k, .int .i64 v, .int .i64 n]] W fun e w' => e = .returned (.bool (isW ⟨k, v, n⟩)) ∧ Below W.heap.size W w') := isWrite_calls ⟨k, v, n⟩ W
  clear hv
  simp only [e0]
  go_wp2_with (go_at_call 77; refine (show Calls _ _ _ _ _ from hcl.out).mono ?_; rintro e w2 ⟨rfl, hb2⟩; rw [hisw])
  exact ⟨.bool false, by first | (rw [← e0]; rfl) | (simp [upd, e0]), hb2, rfl⟩
 case refine_3 =>
  intro vs lo hi W hB hv
  have e1 : vs 1 = .bool false := ((hv ⟨1, .data⟩ (by simp) rfl).1)
  clear hv
  simp only [e1]
  go_wp2
  exact ⟨.bool false, by first | (rw [← e1]; rfl) | (simp [upd, e1]), Below.refl _ _, rfl⟩
 case refine_4 =>
  intro vs lo hi W hB hv
  have e2 : vs 2 = .bool false := ((hv ⟨2, .guard⟩ (by simp) rfl).1)
  clear hv
  simp only [e2]
  go_wp2
  exact ⟨undef, by rw [← e2]; rfl, Below.refl _ _, rfl⟩
 case refine_5 =>
  intro vs lo hi W hB hv
  have e2 : vs 2 = .bool false := ((hv ⟨2, .guard⟩ (by simp) rfl).1)
  clear hv
  simp only [e2]
  go_wp2
  exact ⟨undef, by rw [← e2]; rfl, Below.refl _ _, rfl⟩
 case refine_6 =>
  intro vs lo hi W hB hv
  have e2 : vs 2 = .bool false := ((hv ⟨2, .guard⟩ (by simp) rfl).1)
  clear hv
  simp only [e2]
  go_wp2
  exact ⟨undef, by rw [← e2]; rfl, Below.refl _ _, rfl⟩
 case refine_7 =>
  intro vs lo hi W hB hv
  have e2 : vs 2 = .bool false := ((hv ⟨2, .guard⟩ (by simp) rfl).1)
  clear hv
  simp only [e2]
  go_wp2
  exact ⟨undef, by rw [← e2]; rfl, Below.refl _ _, rfl⟩
 case refine_8 =>
  intro vs lo hi W hB hv
  have e2 : vs 2 = .bool false := ((hv ⟨2, .chain⟩ (by simp) rfl).1)
  clear hv
  simp only [e2]
  go_wp2
  exact ⟨undef, by rw [← e2]; rfl, Below.refl _ _, rfl⟩
 case refine_9 =>
  intro vs lo hi W hB hv
  have e7 : vs 7 = undef := ((hv ⟨7, .guard⟩ (by simp) rfl).1)
  clear hv
  simp only [e7]
  go_wp2
  exact ⟨undef, by rw [← e7]; rfl, Below.refl _ _, rfl⟩
 case refine_10 =>
  intro vs lo hi W hB hv
  have e7 : vs 7 = undef := ((hv ⟨7, .guard⟩ (by simp) rfl).1)
  clear hv
  simp only [e7]
  go_wp2
  exact ⟨undef, by rw [← e7]; rfl, Below.refl _ _, rfl⟩
 case refine_11 =>
  intro vs lo hi W hB hv
  have e7 : vs 7 = undef := ((hv ⟨7, .guard⟩ (by simp) rfl).1)
  clear hv
  simp only [e7]
  go_wp2
  exact ⟨undef, by rw [← e7]; rfl, Below.refl _ _, rfl⟩
 case refine_12 =>
  intro vs lo hi W hB hv
  have e7 : vs 7 = undef := ((hv ⟨7, .guard⟩ (by simp) rfl).1)
  clear hv
  simp only [e7]
  go_wp2
  exact ⟨undef, by rw [← e7]; rfl, Below.refl _ _, rfl⟩
 case refine_13 =>
  intro vs lo hi W hB hv
  have e7 : vs 7 = undef := ((hv ⟨7, .guard⟩ (by simp) rfl).1)
  clear hv
  simp only [e7]
  go_wp2
  exact ⟨undef, by rw [← e7]; rfl, Below.refl _ _, rfl⟩
 case refine_14 =>
  intro vs lo hi W hB hv
  have e7 : vs 7 = undef := ((hv ⟨7, .chain⟩ (by simp) rfl).1)
  clear hv
  simp only [e7]
  go_wp2
  exact ⟨undef, by rw [← e7]; rfl, Below.refl _ _, rfl⟩
 case refine_15 =>
  intro vs lo hi W hB hv
  have e2 : vs 2 = .bool false := ((hv ⟨2, .guard⟩ (by simp) rfl).1)
  clear hv
  simp only [e2]
  go_wp2
  exact ⟨undef, by rw [← e2]; rfl, Below.refl _ _, rfl⟩
 case refine_16 =>
  intro vs lo hi W hB hv
  have e2 : vs 2 = .bool false := ((hv ⟨2, .guard⟩ (by simp) rfl).1)
  clear hv
  simp only [e2]
  go_wp2
  exact ⟨undef, by rw [← e2]; rfl, Below.refl _ _, rfl⟩
 case refine_17 =>
  intro vs lo hi W hB hv
  have e2 : vs 2 = .bool false := ((hv ⟨2, .data⟩ (by simp) rfl).1)
  have e15 : vs 15 = undef := ((hv ⟨15, .data⟩ (by simp) rfl).1)
  clear hv
  simp only [e2, e15]
  go_wp2
  exact ⟨.bool false, by first | (rw [← e2, ← e15]; rfl) | (simp [upd, e2, e15]), Below.refl _ _, rfl⟩
 case refine_18 =>
  intro vs lo hi W hB hv _ _
  have e0 : vs 0 = .agg #[.int .i64 k, .int .i64 v, .int .i64 n] := (hv 0 (by simp))
  have e1 : vs 1 = .bool false := (hv 1 (by simp))
  have e2 : vs 2 = .bool false := (hv 2 (by simp))
  have e16 : vs 16 = .bool false := (hv 16 (by simp))
  clear hv
  simp only [e0, e1, e2, e16]
  have hUW : Hid (AcdW w W gm gr ga (ms.set t ((p : Int) + 1)) k v n) := hU.out.on hB
  obtain ⟨hiW, hxW, hgW, _, _, _, c3W, _⟩ := hxk.out W hUW.out.hb
  have hsg : Hid (w.heap.size ≤ gr) := by have := hUW.out.sz; show _ ≤ _; omega
  have hpo : Hid (Calls Tryz.prog 79 #[.pointer (some ⟨g, 0, none⟩), .pointer (some ⟨gm, 0, none⟩), .int .i64 (t : Int)] W fun e w' => e = .returned (.tuple #[]) ∧ MomW w' gm ((ms.set t ((p : Int) + 1)).set (3 + t) ((p : Int) + 1)) ∧ W.grownBy w' (some gm)) := passOne_calls x ⟨k, v, n⟩ g gm t p (ms.set t ((p : Int) + 1)) _ tc W _ _ hiW hxW hgW c3W (by have := hUW.out.sz; omega) ht3 hp4 hac.out hisw hUW.out.mom (by rw [List.getElem?_set_self (by first | (simp; omega) | omega)]) (by rw [List.getElem?_set_ne (by omega)]; exact h2)
  clear hiW hxW hgW c3W hU hB
  go_wp2_with fail
  refine hpo.out.mono ?_
  rintro e W5 ⟨rfl, hm5, hg5⟩
  have h5 : Hid (AcdW w W5 gm gr ga ((ms.set t ((p : Int) + 1)).set (3 + t) ((p : Int) + 1)) k v n) := hUW.out.grown hg5 hm5
  clear hm5 hg5 hpo hUW
  go_wp2_with (first | (refine wpList_load_mid rfl 97 _ rfl gm 0 rfl (MV ((ms.set t ((p : Int) + 1)).set (3 + t) ((p : Int) + 1))) _ h5.out.mom.row Tryz.underlying97 rfl (by rw [show (MV ((ms.set t ((p : Int) + 1)).set (3 + t) ((p : Int) + 1))).length = 22 by simp [MV, hl]]; kernel_rfl) ?_) | (refine wpList_store_mid rfl 97 _ _ rfl gr 0 (MV ((ms.set t ((p : Int) + 1)).set (3 + t) ((p : Int) + 1))).toArray rfl rfl (by rw [show (MV ((ms.set t ((p : Int) + 1)).set (3 + t) ((p : Int) + 1))).toArray.size = 22 by simp [MV, hl]]; exact h5.out.th) (by rw [show (MV ((ms.set t ((p : Int) + 1)).set (3 + t) ((p : Int) + 1))).toArray.size = 22 by simp [MV, hl]]; kernel_rfl) (all_oneCell_toArray (fun v hv => by simp only [MV, List.mem_map] at hv; obtain ⟨q, _, rfl⟩ := hv; rfl)) ?_))
  refine bodyPost_ret (v := .agg (MV ((ms.set t ((p : Int) + 1)).set (3 + t) ((p : Int) + 1))).toArray) (results_cell_mid rfl _ _ gr (MV ((ms.set t ((p : Int) + 1)).set (3 + t) ((p : Int) + 1))) _ rfl (World.rangeAt_setCells_same W5 gr 0 (MV ((ms.set t ((p : Int) + 1)).set (3 + t) ((p : Int) + 1))) (by rw [show (MV ((ms.set t ((p : Int) + 1)).set (3 + t) ((p : Int) + 1))).length = 22 by simp [MV, hl]]; exact h5.out.th)) Tryz.underlying97 rfl (by rw [show (MV ((ms.set t ((p : Int) + 1)).set (3 + t) ((p : Int) + 1))).length = 22 by simp [MV, hl]]; kernel_rfl)) rfl ⟨((ms.set t ((p : Int) + 1)).set (3 + t) ((p : Int) + 1)), rfl, by simp [hl], fun _ _ => rfl, below_setCells gr hsg.out (MV ((ms.set t ((p : Int) + 1)).set (3 + t) ((p : Int) + 1))) 0 W5 h5.out.hb⟩
end Go.Proofs.YtknbchheoloaoaaGreat
