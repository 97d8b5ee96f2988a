/- The program's question whether a thread can go on. -/
import Derived.Test.YtknbchheoloaoaaGreatSoS
namespace Go.Proofs.YtknbchheoloaoaaGreat
set_option linter.unusedVariables false
open Go.ChangeShapes Go.WideShapes Go.ChangeAt Go.RowKit

theorem upd_self (vs : Nat → Value) (i : Nat) : upd vs i (vs i) = vs := by
 funext j
 unfold upd
 split
 ·rename_i h; rw [h]
 ·rfl
def lv (L : List Value) : Nat → Value → Nat → Nat → World → Prop := fun i v _ _ _ => v = L.getD i undef
def lvs (sk : List Nat) (L : List Value) : Nat → Value → Nat → Nat → World → Prop := fun i v _ _ _ => i ∈ sk ∨ v = L.getD i undef
def lv1 (L : List Value) : Nat → Value → Prop := fun i v => v = L.getD i undef
def alR (W0 : World) (c n : Nat) : Nat → (Nat → Value) → World → Prop
 | 0, _, W => Below W0.heap.size W0 W
 | _, vs, W => Below W0.heap.size W0 W ∧ ∃ b, vs c = .pointer (some ⟨b, 0, none⟩) ∧ W.there b 0 n ∧ W0.heap.size ≤ b ∧ b < W.heap.size
theorem alR_below {W0 : World} {c n k : Nat} {vs : Nat → Value} {W : World} (h : alR W0 c n k vs W) : Below W0.heap.size W0 W := by
 match k, h with
 | 0, h => exact h
 | _ + 1, h => exact h.1
theorem alR_loc (W0 : World) (c n : Nat) : ∀ k vs i v w, i ∉ [c] → alR W0 c n k vs w → alR W0 c n k (upd vs i v) w := by
 intro k vs i v w hi h
 have e : upd vs i v c = vs c := by
  unfold upd
  rw [if_neg]
  intro q; exact hi (by simp [q])
 match k, h with
 | 0, h => exact h
 | _ + 1, h =>
  show _ ∧ ∃ b, upd vs i v c = _ ∧ _
  rw [e]; exact h

set_option maxRecDepth 1000000 in
set_option maxHeartbeats 8000000 in
theorem canGoOn_calls (x : LitL) (a : ActL) (g gm t : Nat) (pc : Nat → Nat) (ta : Option Addr) (tc : Nat) (w : World) (lo hi : Nat) (hh : hi ≤ w.heap.size) (hx : ListAt ThrR 1 true lo hi w (.slice ta x.thr.length tc) x.thr) (hg : g < w.heap.size) (hgm : gm < w.heap.size) (hc : w.rangeAt g 0 [.int .i64 x.vars, .int .i64 x.vol, .int .i64 x.locks, .slice ta x.thr.length tc]) (hn3 : x.thr.length ≤ 3)
  (hpc : ∀ t (h : t < x.thr.length), w.cell? ⟨gm, t, none⟩ = some (.int .i16 (pc t)) ∧ pc t ≤ 4 ∧ pc t ≤ (x.thr[t]).length ∧ (x.thr[t]).length ≤ 4) (hun : ∀ t (h : t < x.thr.length), w.cell? ⟨gm, 3 + t, none⟩ = some (.int .i16 (pc t))) (ha : actAt x t (pc t) = some a) :
  Calls Tryz.prog 50 #[.pointer (some ⟨g, 0, none⟩), .pointer (some ⟨gm, 0, none⟩), .int .i64 (t : Int)] w fun e w' => e = .returned (.bool ((a.kind == 1 || (!isL a && decide (x.vol ≤ a.var))) || (a.kind != 4 || frB (fun t => !hasP x pc a.var t) 0 x.thr.length))) ∧ Below w.heap.size w w' := by
 obtain ⟨b1, o1, len, uc, b2, o2, rfl, ht, hk, hkc, hb1, hA⟩ := actAt_of hx hh ha
 obtain ⟨hmp, hp4, _, _⟩ := hpc t ht
 have hmu := hun t ht
 have hfr : Hid (∀ W, Below w.heap.size w W → Calls Tryz.prog 73 #[.pointer (some ⟨g, 0, none⟩), .pointer (some ⟨gm, 0, none⟩), .int .i64 a.var] W fun e w' => e = .returned (.bool (frB (fun t => !hasP x pc a.var t) 0 x.thr.length)) ∧ Below W.heap.size W w') := fun W hW =>
  isFree_calls x g gm _ tc pc a.var W lo hi (by have := hW.size; omega) (hx.kept ThrR.stable (Nat.le_refl _) (Nat.le_refl _) ((Same.below hW).mono (Nat.zero_le _) hh)) (by have := hW.size; omega) ((hW.cell (p := ⟨g, 3, none⟩) hg).trans (hc 3 _ rfl)) (by have := hW.size; omega) hn3 (fun t h => ⟨(hW.cell (p := ⟨gm, t, none⟩) hgm).trans (hpc t h).1, (hpc t h).2⟩)
 generalize frB (fun t => !hasP x pc a.var t) 0 x.thr.length = fre at hfr ⊢
 obtain ⟨p, hpe⟩ : ∃ p, p = pc t := ⟨_, rfl⟩
 rw [← hpe] at hmp hmu hp4 hk hA
 have ht3 : t < 3 := by omega
 have hcell : Hid (∀ W, Below w.heap.size w W → W.cell? ⟨g, 3, none⟩ = some (.slice (some ⟨b1, o1, none⟩) x.thr.length tc) ∧ W.cell? ⟨gm, t, none⟩ = some (.int .i16 (p : Int)) ∧ W.cell? ⟨b1, o1 + t, none⟩ = some (.slice (some ⟨b2, o2, none⟩) len uc) ∧ W.cell? ⟨b2, o2 + p * 3, none⟩ = some (.int .i64 a.kind) ∧ W.cell? ⟨b2, o2 + p * 3 + 1, none⟩ = some (.int .i64 a.var) ∧ W.cell? ⟨b2, o2 + p * 3 + 2, none⟩ = some (.int .i64 a.n)) := fun W hW => by
  obtain ⟨c1, c2, c3, c4⟩ := hA W hW
  exact ⟨(hW.cell (p := ⟨g, 3, none⟩) hg).trans (hc 3 _ rfl), (hW.cell (p := ⟨gm, t, none⟩) hgm).trans hmp, by simpa using c1, by simpa using c2, by simpa using c3, by simpa using c4⟩
 have hcell2 : Hid (∀ W, Below w.heap.size w W → W.cell? ⟨g, 0, none⟩ = some (.int .i64 x.vars) ∧ W.cell? ⟨g, 1, none⟩ = some (.int .i64 x.vol) ∧ W.cell? ⟨g, 2, none⟩ = some (.int .i64 x.locks) ∧ W.cell? ⟨g, 3, none⟩ = some (.slice (some ⟨b1, o1, none⟩) x.thr.length tc)) := fun W hW =>
  ⟨(hW.cell (p := ⟨g, 0, none⟩) hg).trans (hc 0 _ rfl), (hW.cell (p := ⟨g, 1, none⟩) hg).trans (hc 1 _ rfl), (hW.cell (p := ⟨g, 2, none⟩) hg).trans (hc 2 _ rfl), (hW.cell (p := ⟨g, 3, none⟩) hg).trans (hc 3 _ rfl)⟩
 have hus : Hid (∀ W, Below w.heap.size w W → Calls Tryz.prog 72 #[.pointer (some ⟨gm, 0, none⟩), .int .i64 (t : Int)] W fun e w' => e = .returned (.bool (decide ((p : Int) < p))) ∧ w' = W) := fun W hW => hasUnsent_calls gm t p p W ht3 (by omega) (by omega) ((hW.cell (p := ⟨gm, t, none⟩) hgm).trans hmp) ((hW.cell (p := ⟨gm, 3 + t, none⟩) hgm).trans hmu)
 have hnx : Hid (∀ W, Below w.heap.size w W → Calls Tryz.prog 51 #[.pointer (some ⟨gm, 0, none⟩), .int .i64 (t : Int)] W fun e w' => e = .returned (.int .i64 (p : Int)) ∧ w' = W) := fun W hW => next_calls gm t p W ht3 (by omega) (hcell.out W hW).2.1
 have p1 : (t : Int) < x.thr.length := by omega
 have p2 : (p : Int) < len := by omega
 have heq : ((p : Int) == (len : Int)) = false := by simp; omega
 clear hA hx ha hc hmp hmu hpc hun hpe
 go_enter Tryz.func50, Tryz.ntmps50
 go_wp2_with fail
 refine wp_region_own (by kernel_rfl) (fun vs => { tmps := #[.pointer (some ⟨g, 0, none⟩), .pointer (some ⟨gm, 0, none⟩), .int .i64 (t : Int), undef, undef, undef, .bool false, undef, vs 0, vs 1, vs 2, vs 3, vs 4, vs 5, vs 6, vs 7, vs 8, vs 9, vs 10, vs 11, vs 12, undef, undef, undef, undef, undef, undef, undef, undef, undef, undef, undef, undef, undef, undef, undef, undef, undef, undef, undef, undef, undef, undef, undef, undef, undef, undef, undef, undef, undef, undef, undef, undef, undef, undef, undef, undef, undef, undef, undef], defers := [] }) (lv [.pointer (some ⟨gm, 0, none⟩), .int .i64 (t : Int), .int .i64 (p : Int), .pointer (some ⟨g, 0, none⟩), .pointer (some ⟨g, 0, none⟩), .pointer (some ⟨g, 0, none⟩), .pointer (some ⟨g, 3, none⟩), .slice (some ⟨b1, o1, none⟩) x.thr.length tc, .int .i64 (t : Int), .pointer (some ⟨b1, o1 + t, none⟩), .slice (some ⟨b2, o2, none⟩) len uc, .int .i64 (len : Int), .bool false]) (fun i => undef) rfl (fun _ _ _ _ _ _ _ _ h => h) (allAt_all ⟨?_, ?_, ?_, ?_, ?_, ?_, ?_, ?_, ?_, ?_, ?_, ?_, ?_, trivial⟩) ?_ (regForward_done (by kernel_rfl))
 case refine_1 =>
  intro vs lo hi W hB hv
  clear hv
  go_wp2
  exact ⟨.pointer (some ⟨gm, 0, none⟩), by rfl, Below.refl _ _, rfl⟩
 case refine_2 =>
  intro vs lo hi W hB hv
  clear hv
  go_wp2
  exact ⟨.int .i64 (t : Int), by rfl, Below.refl _ _, rfl⟩
 case refine_3 =>
  intro vs lo hi W hB hv
  have e0 : vs 0 = .pointer (some ⟨gm, 0, none⟩) := ((hv ⟨0, .data⟩ (by simp) rfl).1)
  have e1 : vs 1 = .int .i64 (t : Int) := ((hv ⟨1, .data⟩ (by simp) rfl).1)
  have hn := hnx.out W hB
  have hnH : Hid (Calls Tryz.prog 51 #[.pointer (some ⟨gm, 0, none⟩), .int .i64 (t : Int)] W fun e w' => e = .returned (.int .i64 (p : Int)) ∧ w' = W) := hn
  clear hn
  clear hv
  simp only [e0, e1]
  go_wp2_with (go_at_call 51; refine (show Calls _ _ _ _ _ from hnH.out).mono ?_; rintro e w2 ⟨rfl, rfl⟩)
  exact ⟨.int .i64 (p : Int), by rw [← e0, ← e1]; rfl, Below.refl _ _, rfl⟩
 case refine_4 =>
  intro vs lo hi W hB hv
  clear hv
  go_wp2
  exact ⟨.pointer (some ⟨g, 0, none⟩), by rfl, Below.refl _ _, rfl⟩
 case refine_5 =>
  intro vs lo hi W hB hv
  have e3 : vs 3 = .pointer (some ⟨g, 0, none⟩) := ((hv ⟨3, .data⟩ (by simp) rfl).1)
  clear hv
  simp only [e3]
  go_wp2
  exact ⟨.pointer (some ⟨g, 0, none⟩), by rw [← e3]; rfl, Below.refl _ _, rfl⟩
 case refine_6 =>
  intro vs lo hi W hB hv
  have e4 : vs 4 = .pointer (some ⟨g, 0, none⟩) := ((hv ⟨4, .data⟩ (by simp) rfl).1)
  clear hv
  simp only [e4]
  go_wp2
  exact ⟨.pointer (some ⟨g, 0, none⟩), by rw [← e4]; rfl, Below.refl _ _, rfl⟩
 case refine_7 =>
  intro vs lo hi W hB hv
  have e5 : vs 5 = .pointer (some ⟨g, 0, none⟩) := ((hv ⟨5, .data⟩ (by simp) rfl).1)
  clear hv
  simp only [e5]
  go_wp2
  exact ⟨.pointer (some ⟨g, 3, none⟩), by rw [← e5]; rfl, Below.refl _ _, rfl⟩
 case refine_8 =>
  intro vs lo hi W hB hv
  have e6 : vs 6 = .pointer (some ⟨g, 3, none⟩) := ((hv ⟨6, .data⟩ (by simp) rfl).1)
  obtain ⟨c3, cm, c1, a1, a2, a3⟩ := hcell.out W hB
  clear hv
  simp only [e6]
  go_wp2
  exact ⟨.slice (some ⟨b1, o1, none⟩) x.thr.length tc, by rw [← e6]; rfl, Below.refl _ _, rfl⟩
 case refine_9 =>
  intro vs lo hi W hB hv
  clear hv
  go_wp2
  exact ⟨.int .i64 (t : Int), by rfl, Below.refl _ _, rfl⟩
 case refine_10 =>
  intro vs lo hi W hB hv
  have e7 : vs 7 = .slice (some ⟨b1, o1, none⟩) x.thr.length tc := ((hv ⟨7, .data⟩ (by simp) rfl).1)
  have e8 : vs 8 = .int .i64 (t : Int) := ((hv ⟨8, .data⟩ (by simp) rfl).1)
  clear hv
  simp only [e7, e8]
  go_wp2
  exact ⟨.pointer (some ⟨b1, o1 + t, none⟩), by rw [← e7, ← e8]; rfl, Below.refl _ _, rfl⟩
 case refine_11 =>
  intro vs lo hi W hB hv
  have e9 : vs 9 = .pointer (some ⟨b1, o1 + t, none⟩) := ((hv ⟨9, .data⟩ (by simp) rfl).1)
  obtain ⟨c3, cm, c1, a1, a2, a3⟩ := hcell.out W hB
  clear hv
  simp only [e9]
  go_wp2
  exact ⟨.slice (some ⟨b2, o2, none⟩) len uc, by rw [← e9]; rfl, Below.refl _ _, rfl⟩
 case refine_12 =>
  intro vs lo hi W hB hv
  have e10 : vs 10 = .slice (some ⟨b2, o2, none⟩) len uc := ((hv ⟨10, .data⟩ (by simp) rfl).1)
  clear hv
  simp only [e10]
  go_wp2
  exact ⟨.int .i64 (len : Int), by rw [← e10]; rfl, Below.refl _ _, rfl⟩
 case refine_13 =>
  intro vs lo hi W hB hv
  have e2 : vs 2 = .int .i64 (p : Int) := ((hv ⟨2, .data⟩ (by simp) rfl).1)
  have e11 : vs 11 = .int .i64 (len : Int) := ((hv ⟨11, .data⟩ (by simp) rfl).1)
  clear hv
  simp only [e2, e11]
  go_wp2
  exact ⟨.bool false, by rw [← e2, ← e11]; rfl, Below.refl _ _, rfl⟩
 case refine_14 =>
  intro vs lo hi W hB hv _ _
  have e0 : vs 0 = .pointer (some ⟨gm, 0, none⟩) := (hv 0 (by simp))
  have e1 : vs 1 = .int .i64 (t : Int) := (hv 1 (by simp))
  have e2 : vs 2 = .int .i64 (p : Int) := (hv 2 (by simp))
  have e3 : vs 3 = .pointer (some ⟨g, 0, none⟩) := (hv 3 (by simp))
  have e4 : vs 4 = .pointer (some ⟨g, 0, none⟩) := (hv 4 (by simp))
  have e5 : vs 5 = .pointer (some ⟨g, 0, none⟩) := (hv 5 (by simp))
  have e6 : vs 6 = .pointer (some ⟨g, 3, none⟩) := (hv 6 (by simp))
  have e7 : vs 7 = .slice (some ⟨b1, o1, none⟩) x.thr.length tc := (hv 7 (by simp))
  have e8 : vs 8 = .int .i64 (t : Int) := (hv 8 (by simp))
  have e9 : vs 9 = .pointer (some ⟨b1, o1 + t, none⟩) := (hv 9 (by simp))
  have e10 : vs 10 = .slice (some ⟨b2, o2, none⟩) len uc := (hv 10 (by simp))
  have e11 : vs 11 = .int .i64 (len : Int) := (hv 11 (by simp))
  have e12 : vs 12 = .bool false := (hv 12 (by simp))
  clear hv
  simp only [e0, e1, e2, e3, e4, e5, e6, e7, e8, e9, e10, e11, e12]
  clear e0 e1 e2 e3 e4 e5 e6 e7 e8 e9 e10 e11 e12
  go_wp2_with fail
  obtain ⟨W0, hW0⟩ : ∃ W0, W0 = W := ⟨_, rfl⟩
  rw [← hW0] at hB ⊢
  have hB0 : Hid (Below w.heap.size w W0) := hB
  clear hW0 hB
  refine wp_region_chain (by kernel_rfl) (fun vs => { tmps := #[.pointer (some ⟨g, 0, none⟩), .pointer (some ⟨gm, 0, none⟩), .int .i64 (t : Int), undef, undef, undef, .bool false, vs 13, .pointer (some ⟨gm, 0, none⟩), .int .i64 (t : Int), .int .i64 (p : Int), .pointer (some ⟨g, 0, none⟩), .pointer (some ⟨g, 0, none⟩), .pointer (some ⟨g, 0, none⟩), .pointer (some ⟨g, 3, none⟩), .slice (some ⟨b1, o1, none⟩) x.thr.length tc, .int .i64 (t : Int), .pointer (some ⟨b1, o1 + t, none⟩), .slice (some ⟨b2, o2, none⟩) len uc, .int .i64 (len : Int), .bool false, vs 0, vs 1, vs 2, vs 3, vs 4, vs 5, vs 6, vs 7, vs 8, vs 9, vs 10, vs 11, vs 12, undef, undef, undef, undef, undef, undef, undef, undef, undef, undef, undef, undef, undef, undef, undef, undef, undef, undef, undef, undef, undef, undef, undef, undef, undef, undef], defers := [] }) [13] (lv1 [.pointer (some ⟨g, 0, none⟩), .pointer (some ⟨g, 0, none⟩), .pointer (some ⟨g, 0, none⟩), .pointer (some ⟨g, 3, none⟩), .slice (some ⟨b1, o1, none⟩) x.thr.length tc, .int .i64 (t : Int), .pointer (some ⟨b1, o1 + t, none⟩), .slice (some ⟨b2, o2, none⟩) len uc, .pointer (some ⟨gm, 0, none⟩), .int .i64 (t : Int), .int .i64 (p : Int), .pointer (some ⟨b2, o2 + p * 3, none⟩), .agg #[.int .i64 a.kind, .int .i64 a.var, .int .i64 a.n], undef]) (alR W0 13 3) (fun i => undef) rfl (by kernel_rfl) ?_ (alR_loc _ _ _) (allAt_all ⟨?_, ?_, ?_, ?_, ?_, ?_, ?_, ?_, ?_, ?_, ?_, ?_, ?_, ?_, ?_, trivial⟩) ?_ ?_
  case refine_1 => exact Below.drew (Below.refl _ _)
  case refine_2 =>
   intro _ _ k vs W hR hv
   have hB := alR_below hR
   clear hv hR
   go_wp2
   exact PurePost.mk' (.pointer (some ⟨g, 0, none⟩)) (by rfl) rfl
  case refine_3 =>
   intro _ _ k vs W hR hv
   have hB := alR_below hR
   have e0 : vs 0 = .pointer (some ⟨g, 0, none⟩) := hv ⟨0, .data⟩ (by simp) rfl (by decide)
   clear hv hR
   simp only [e0]
   go_wp2
   exact PurePost.mk' (.pointer (some ⟨g, 0, none⟩)) (by rw [← e0]; rfl) rfl
  case refine_4 =>
   intro _ _ k vs W hR hv
   have hB := alR_below hR
   have e1 : vs 1 = .pointer (some ⟨g, 0, none⟩) := hv ⟨1, .data⟩ (by simp) rfl (by decide)
   clear hv hR
   simp only [e1]
   go_wp2
   exact PurePost.mk' (.pointer (some ⟨g, 0, none⟩)) (by rw [← e1]; rfl) rfl
  case refine_5 =>
   intro _ _ k vs W hR hv
   have hB := alR_below hR
   have e2 : vs 2 = .pointer (some ⟨g, 0, none⟩) := hv ⟨2, .data⟩ (by simp) rfl (by decide)
   clear hv hR
   simp only [e2]
   go_wp2
   exact PurePost.mk' (.pointer (some ⟨g, 3, none⟩)) (by rw [← e2]; rfl) rfl
  case refine_6 =>
   intro _ _ k vs W hR hv
   have hB := alR_below hR
   have e3 : vs 3 = .pointer (some ⟨g, 3, none⟩) := hv ⟨3, .data⟩ (by simp) rfl (by decide)
   obtain ⟨c3, cm, c1, a1, a2, a3⟩ := hcell.out W (below_on hB0.out hB)
   clear hv hR
   simp only [e3]
   go_wp2
   exact PurePost.mk' (.slice (some ⟨b1, o1, none⟩) x.thr.length tc) (by rw [← e3]; rfl) rfl
  case refine_7 =>
   intro _ _ k vs W hR hv
   have hB := alR_below hR
   clear hv hR
   go_wp2
   exact PurePost.mk' (.int .i64 (t : Int)) (by rfl) rfl
  case refine_8 =>
   intro _ _ k vs W hR hv
   have hB := alR_below hR
   have e4 : vs 4 = .slice (some ⟨b1, o1, none⟩) x.thr.length tc := hv ⟨4, .data⟩ (by simp) rfl (by decide)
   have e5 : vs 5 = .int .i64 (t : Int) := hv ⟨5, .data⟩ (by simp) rfl (by decide)
   clear hv hR
   simp only [e4, e5]
   go_wp2
   exact PurePost.mk' (.pointer (some ⟨b1, o1 + t, none⟩)) (by rw [← e4, ← e5]; rfl) rfl
  case refine_9 =>
   intro _ _ k vs W hR hv
   have hB := alR_below hR
   have e6 : vs 6 = .pointer (some ⟨b1, o1 + t, none⟩) := hv ⟨6, .data⟩ (by simp) rfl (by decide)
   obtain ⟨c3, cm, c1, a1, a2, a3⟩ := hcell.out W (below_on hB0.out hB)
   clear hv hR
   simp only [e6]
   go_wp2
   exact PurePost.mk' (.slice (some ⟨b2, o2, none⟩) len uc) (by rw [← e6]; rfl) rfl
  case refine_10 =>
   intro _ _ k vs W hR hv
   have hB := alR_below hR
   clear hv hR
   go_wp2
   exact PurePost.mk' (.pointer (some ⟨gm, 0, none⟩)) (by rfl) rfl
  case refine_11 =>
   intro _ _ k vs W hR hv
   have hB := alR_below hR
   clear hv hR
   go_wp2
   exact PurePost.mk' (.int .i64 (t : Int)) (by rfl) rfl
  case refine_12 =>
   intro _ _ k vs W hR hv
   have hB := alR_below hR
   have e8 : vs 8 = .pointer (some ⟨gm, 0, none⟩) := hv ⟨8, .data⟩ (by simp) rfl (by decide)
   have e9 : vs 9 = .int .i64 (t : Int) := hv ⟨9, .data⟩ (by simp) rfl (by decide)
   have hn := hnx.out W (below_on hB0.out hB)
   have hnH : Hid (Calls Tryz.prog 51 #[.pointer (some ⟨gm, 0, none⟩), .int .i64 (t : Int)] W fun e w' => e = .returned (.int .i64 (p : Int)) ∧ w' = W) := hn
   clear hn
   clear hv hR
   simp only [e8, e9]
   go_wp2_with (go_at_call 51; refine (show Calls _ _ _ _ _ from hnH.out).mono ?_; rintro e w2 ⟨rfl, rfl⟩)
   exact PurePost.mk' (.int .i64 (p : Int)) (by rw [← e8, ← e9]; rfl) rfl
  case refine_13 =>
   intro _ _ k vs W hR hv
   have hB := alR_below hR
   have e7 : vs 7 = .slice (some ⟨b2, o2, none⟩) len uc := hv ⟨7, .data⟩ (by simp) rfl (by decide)
   have e10 : vs 10 = .int .i64 (p : Int) := hv ⟨10, .data⟩ (by simp) rfl (by decide)
   clear hv hR
   simp only [e7, e10]
   go_wp2
   exact PurePost.mk' (.pointer (some ⟨b2, o2 + p * 3, none⟩)) (by rw [← e7, ← e10]; rfl) rfl
  case refine_14 =>
   intro _ _ k vs W hR hv
   have hB := alR_below hR
   have e11 : vs 11 = .pointer (some ⟨b2, o2 + p * 3, none⟩) := hv ⟨11, .data⟩ (by simp) rfl (by decide)
   obtain ⟨c3, cm, c1, a1, a2, a3⟩ := hcell.out W (below_on hB0.out hB)
   clear hv hR
   simp only [e11]
   go_wp2
   exact PurePost.mk' (.agg #[.int .i64 a.kind, .int .i64 a.var, .int .i64 a.n]) (by rw [← e11]; rfl) rfl
  case refine_15 => exact fun h => absurd (by decide) h
  case refine_16 => exact fun _ h => absurd h (by simp)
  case refine_17 =>
   intro k q o hq ho vs W hR hv
   match k, hq with
   | 0, hq =>
    obtain rfl : q = 13 := by simpa using hq.symm
    obtain rfl := Option.some.inj ho
    have hB : Below W0.heap.size W0 W := hR
    clear hv hR
    go_wp2
    exact ChainPost.mk' (.pointer (some ⟨W.heap.size, 0, none⟩)) (by rfl) ⟨below_on hB (below_1 _ _), W.heap.size, rfl, there_heap (heap_alloc_new W _), hB.size, by simp⟩
   | k + 1, hq => simp at hq
  case refine_18 =>
   intro o ho vs W hR hv
   obtain rfl := Option.some.inj ho
   obtain ⟨hB, bl, ec, hth, hb1, hb2⟩ := hR
   have e0 : vs 0 = .pointer (some ⟨g, 0, none⟩) := hv 0 (by simp) (by decide)
   have e1 : vs 1 = .pointer (some ⟨g, 0, none⟩) := hv 1 (by simp) (by decide)
   have e2 : vs 2 = .pointer (some ⟨g, 0, none⟩) := hv 2 (by simp) (by decide)
   have e3 : vs 3 = .pointer (some ⟨g, 3, none⟩) := hv 3 (by simp) (by decide)
   have e4 : vs 4 = .slice (some ⟨b1, o1, none⟩) x.thr.length tc := hv 4 (by simp) (by decide)
   have e5 : vs 5 = .int .i64 (t : Int) := hv 5 (by simp) (by decide)
   have e6 : vs 6 = .pointer (some ⟨b1, o1 + t, none⟩) := hv 6 (by simp) (by decide)
   have e7 : vs 7 = .slice (some ⟨b2, o2, none⟩) len uc := hv 7 (by simp) (by decide)
   have e8 : vs 8 = .pointer (some ⟨gm, 0, none⟩) := hv 8 (by simp) (by decide)
   have e9 : vs 9 = .int .i64 (t : Int) := hv 9 (by simp) (by decide)
   have e10 : vs 10 = .int .i64 (p : Int) := hv 10 (by simp) (by decide)
   have e11 : vs 11 = .pointer (some ⟨b2, o2 + p * 3, none⟩) := hv 11 (by simp) (by decide)
   have e12 : vs 12 = .agg #[.int .i64 a.kind, .int .i64 a.var, .int .i64 a.n] := hv 12 (by simp) (by decide)
   refine wpList_store_mid rfl 60 _ _ rfl bl 0 #[.int .i64 a.kind, .int .i64 a.var, .int .i64 a.n] ec e12 hth (by kernel_rfl) (all_oneCell_toArray (cs := [.int .i64 a.kind, .int .i64 a.var, .int .i64 a.n]) (by simp [Value.oneCell'])) ?_
   refine wpList_nil ?_
   have hrow := World.rangeAt_setCells_same W bl 0 [.int .i64 a.kind, .int .i64 a.var, .int .i64 a.n] hth
   have hB2 := below_setCells bl hb1 [.int .i64 a.kind, .int .i64 a.var, .int .i64 a.n] 0 W hB
   have hbs : bl < (W.setCells bl 0 [.int .i64 a.kind, .int .i64 a.var, .int .i64 a.n]).heap.size := by rw [size_setCells]; exact hb2
   generalize W.setCells bl 0 [.int .i64 a.kind, .int .i64 a.var, .int .i64 a.n] = W1 at *
   clear hv hth hB hb2
   simp only [ec, e0, e1, e2, e3, e4, e5, e6, e7, e8, e9, e10, e11, e12]
   clear ec e0 e1 e2 e3 e4 e5 e6 e7 e8 e9 e10 e11 e12
   have q0 := hrow 0 _ rfl
   have q1 := hrow 1 _ rfl
   have q2 := hrow 2 _ rfl
   simp only [Nat.zero_add] at q0 q1 q2
   clear hrow
   go_wp2_with fail
   have hB1 : Hid (Below w.heap.size w W1) := below_on hB0.out hB2
   cases hk1 : (a.kind == 1) with
   | true =>
    refine wp_region_own (by kernel_rfl) (fun vs => { tmps := #[.pointer (some ⟨g, 0, none⟩), .pointer (some ⟨gm, 0, none⟩), .int .i64 (t : Int), undef, undef, undef, .bool false, .pointer (some ⟨bl, 0, none⟩), .pointer (some ⟨gm, 0, none⟩), .int .i64 (t : Int), .int .i64 (p : Int), .pointer (some ⟨g, 0, none⟩), .pointer (some ⟨g, 0, none⟩), .pointer (some ⟨g, 0, none⟩), .pointer (some ⟨g, 3, none⟩), .slice (some ⟨b1, o1, none⟩) x.thr.length tc, .int .i64 (t : Int), .pointer (some ⟨b1, o1 + t, none⟩), .slice (some ⟨b2, o2, none⟩) len uc, .int .i64 (len : Int), .bool false, .pointer (some ⟨g, 0, none⟩), .pointer (some ⟨g, 0, none⟩), .pointer (some ⟨g, 0, none⟩), .pointer (some ⟨g, 3, none⟩), .slice (some ⟨b1, o1, none⟩) x.thr.length tc, .int .i64 (t : Int), .pointer (some ⟨b1, o1 + t, none⟩), .slice (some ⟨b2, o2, none⟩) len uc, .pointer (some ⟨gm, 0, none⟩), .int .i64 (t : Int), .int .i64 (p : Int), .pointer (some ⟨b2, o2 + p * 3, none⟩), .agg #[.int .i64 a.kind, .int .i64 a.var, .int .i64 a.n], vs 11, vs 0, vs 1, vs 2, vs 3, vs 4, vs 5, vs 6, vs 7, vs 8, vs 9, vs 10, undef, undef, undef, undef, undef, undef, undef, undef, undef, undef, undef, undef, undef, undef], defers := [] }) (lv [.pointer (some ⟨bl, 0, none⟩), .int .i64 a.kind, .bool true, .bool true, undef, undef, undef, undef, undef, undef, .bool true, .bool true]) (fun i => undef) rfl (fun _ _ _ _ _ _ _ _ h => h) (allAt_all ⟨?_, ?_, ?_, ?_, ?_, ?_, ?_, ?_, ?_, ?_, ?_, ?_, trivial⟩) ?_ (regForward_done (by kernel_rfl))
    case refine_1 =>
     intro vs lo hi W hB hv
     clear hv
     go_wp2
     exact ⟨.pointer (some ⟨bl, 0, none⟩), by rfl, Below.refl _ _, rfl⟩
    case refine_2 =>
     intro vs lo hi W hB hv
     have e0 : vs 0 = .pointer (some ⟨bl, 0, none⟩) := ((hv ⟨0, .data⟩ (by simp) rfl).1)
     obtain ⟨l0, l1, l2, l3⟩ := hcell2.out W (below_on hB1.out hB)
     have r0 : W.cell? ⟨bl, 0, none⟩ = some (.int .i64 a.kind) := (hB.cell (p := ⟨bl, 0, none⟩) hbs).trans q0
     have r1 : W.cell? ⟨bl, 1, none⟩ = some (.int .i64 a.var) := (hB.cell (p := ⟨bl, 1, none⟩) hbs).trans q1
     have r2 : W.cell? ⟨bl, 2, none⟩ = some (.int .i64 a.n) := (hB.cell (p := ⟨bl, 2, none⟩) hbs).trans q2
     clear hv
     simp only [e0]
     go_wp2
     exact ⟨.int .i64 a.kind, by rw [← e0]; rfl, Below.refl _ _, rfl⟩
    case refine_3 =>
     intro vs lo hi W hB hv
     have e1 : vs 1 = .int .i64 a.kind := ((hv ⟨1, .data⟩ (by simp) rfl).1)
     clear hv
     simp only [e1]
     go_wp2
     exact ⟨.bool true, by rw [← e1]; rfl, Below.refl _ _, rfl⟩
    case refine_4 =>
     intro vs lo hi W hB hv
     have e2 : vs 2 = .bool true := ((hv ⟨2, .data⟩ (by simp) rfl).1)
     clear hv
     simp only [e2]
     go_wp2
     exact ⟨.bool true, by rw [← e2]; rfl, Below.refl _ _, rfl⟩
    case refine_5 =>
     intro vs lo hi W hB hv
     have e3 : vs 3 = .bool true := ((hv ⟨3, .guard⟩ (by simp) rfl).1)
     clear hv
     simp only [e3]
     go_wp2
     exact ⟨undef, by rw [← e3]; rfl, Below.refl _ _, rfl⟩
    case refine_6 =>
     intro vs lo hi W hB hv
     have e3 : vs 3 = .bool true := ((hv ⟨3, .guard⟩ (by simp) rfl).1)
     clear hv
     simp only [e3]
     go_wp2
     exact ⟨undef, by rw [← e3]; rfl, Below.refl _ _, rfl⟩
    case refine_7 =>
     intro vs lo hi W hB hv
     have e3 : vs 3 = .bool true := ((hv ⟨3, .guard⟩ (by simp) rfl).1)
     clear hv
     simp only [e3]
     go_wp2
     exact ⟨undef, by rw [← e3]; rfl, Below.refl _ _, rfl⟩
    case refine_8 =>
     intro vs lo hi W hB hv
     have e3 : vs 3 = .bool true := ((hv ⟨3, .guard⟩ (by simp) rfl).1)
     clear hv
     simp only [e3]
     go_wp2
     exact ⟨undef, by rw [← e3]; rfl, Below.refl _ _, rfl⟩
    case refine_9 =>
     intro vs lo hi W hB hv
     have e3 : vs 3 = .bool true := ((hv ⟨3, .guard⟩ (by simp) rfl).1)
     clear hv
     simp only [e3]
     go_wp2
     exact ⟨undef, by rw [← e3]; rfl, Below.refl _ _, rfl⟩
    case refine_10 =>
     intro vs lo hi W hB hv
     have e3 : vs 3 = .bool true := ((hv ⟨3, .chain⟩ (by simp) rfl).1)
     clear hv
     simp only [e3]
     go_wp2
     exact ⟨undef, by rw [← e3]; rfl, Below.refl _ _, rfl⟩
    case refine_11 =>
     intro vs lo hi W hB hv
     have e3 : vs 3 = .bool true := ((hv ⟨3, .data⟩ (by simp) rfl).1)
     clear hv
     simp only [e3]
     go_wp2
     exact ⟨.bool true, by rw [← e3]; rfl, Below.refl _ _, rfl⟩
    case refine_12 =>
     intro vs lo hi W hB hv
     have e10 : vs 10 = .bool true := ((hv ⟨10, .data⟩ (by simp) rfl).1)
     clear hv
     simp only [e10]
     go_wp2
     exact ⟨.bool true, by rw [← e10]; rfl, Below.refl _ _, rfl⟩
    case refine_13 =>
     intro vs lo hi W hB hv _ _
     have e0 : vs 0 = .pointer (some ⟨bl, 0, none⟩) := (hv 0 (by simp))
     have e1 : vs 1 = .int .i64 a.kind := (hv 1 (by simp))
     have e2 : vs 2 = .bool true := (hv 2 (by simp))
     have e3 : vs 3 = .bool true := (hv 3 (by simp))
     have e10 : vs 10 = .bool true := (hv 10 (by simp))
     have e11 : vs 11 = .bool true := (hv 11 (by simp))
     clear hv
     simp only [e0, e1, e2, e3, e10, e11]
     have hfin : Hid (Below w.heap.size w W) := below_on hB1.out hB
     clear hB q0 q1 q2
     go_wp2
     go_ret
     exact ⟨by rw [hk1]; rfl, hfin.out⟩
   | false =>
    refine wp_region_own (by kernel_rfl) (fun vs => { tmps := #[.pointer (some ⟨g, 0, none⟩), .pointer (some ⟨gm, 0, none⟩), .int .i64 (t : Int), undef, undef, undef, .bool false, .pointer (some ⟨bl, 0, none⟩), .pointer (some ⟨gm, 0, none⟩), .int .i64 (t : Int), .int .i64 (p : Int), .pointer (some ⟨g, 0, none⟩), .pointer (some ⟨g, 0, none⟩), .pointer (some ⟨g, 0, none⟩), .pointer (some ⟨g, 3, none⟩), .slice (some ⟨b1, o1, none⟩) x.thr.length tc, .int .i64 (t : Int), .pointer (some ⟨b1, o1 + t, none⟩), .slice (some ⟨b2, o2, none⟩) len uc, .int .i64 (len : Int), .bool false, .pointer (some ⟨g, 0, none⟩), .pointer (some ⟨g, 0, none⟩), .pointer (some ⟨g, 0, none⟩), .pointer (some ⟨g, 3, none⟩), .slice (some ⟨b1, o1, none⟩) x.thr.length tc, .int .i64 (t : Int), .pointer (some ⟨b1, o1 + t, none⟩), .slice (some ⟨b2, o2, none⟩) len uc, .pointer (some ⟨gm, 0, none⟩), .int .i64 (t : Int), .int .i64 (p : Int), .pointer (some ⟨b2, o2 + p * 3, none⟩), .agg #[.int .i64 a.kind, .int .i64 a.var, .int .i64 a.n], vs 11, vs 0, vs 1, vs 2, vs 3, vs 4, vs 5, vs 6, vs 7, vs 8, vs 9, vs 10, undef, undef, undef, undef, undef, undef, undef, undef, undef, undef, undef, undef, undef, undef], defers := [] }) (lv [.pointer (some ⟨bl, 0, none⟩), .int .i64 a.kind, .bool false, .bool false, .pointer (some ⟨g, 0, none⟩), .pointer (some ⟨g, 0, none⟩), .pointer (some ⟨g, 0, none⟩), .agg #[.int .i64 x.vars, .int .i64 x.vol, .int .i64 x.locks, .slice (some ⟨b1, o1, none⟩) x.thr.length tc], .agg #[.int .i64 a.kind, .int .i64 a.var, .int .i64 a.n], .bool (!isL a && decide (x.vol ≤ a.var)), .bool (!isL a && decide (x.vol ≤ a.var)), .bool (!isL a && decide (x.vol ≤ a.var))]) (fun i => undef) rfl (fun _ _ _ _ _ _ _ _ h => h) (allAt_all ⟨?_, ?_, ?_, ?_, ?_, ?_, ?_, ?_, ?_, ?_, ?_, ?_, trivial⟩) ?_ (regForward_done (by kernel_rfl))
    case refine_1 =>
     intro vs lo hi W hB hv
     clear hv
     go_wp2
     exact ⟨.pointer (some ⟨bl, 0, none⟩), by rfl, Below.refl _ _, rfl⟩
    case refine_2 =>
     intro vs lo hi W hB hv
     have e0 : vs 0 = .pointer (some ⟨bl, 0, none⟩) := ((hv ⟨0, .data⟩ (by simp) rfl).1)
     obtain ⟨l0, l1, l2, l3⟩ := hcell2.out W (below_on hB1.out hB)
     have r0 : W.cell? ⟨bl, 0, none⟩ = some (.int .i64 a.kind) := (hB.cell (p := ⟨bl, 0, none⟩) hbs).trans q0
     have r1 : W.cell? ⟨bl, 1, none⟩ = some (.int .i64 a.var) := (hB.cell (p := ⟨bl, 1, none⟩) hbs).trans q1
     have r2 : W.cell? ⟨bl, 2, none⟩ = some (.int .i64 a.n) := (hB.cell (p := ⟨bl, 2, none⟩) hbs).trans q2
     clear hv
     simp only [e0]
     go_wp2
     exact ⟨.int .i64 a.kind, by rw [← e0]; rfl, Below.refl _ _, rfl⟩
    case refine_3 =>
     intro vs lo hi W hB hv
     have e1 : vs 1 = .int .i64 a.kind := ((hv ⟨1, .data⟩ (by simp) rfl).1)
     clear hv
     simp only [e1]
     go_wp2
     exact ⟨.bool false, by rw [← e1]; rfl, Below.refl _ _, rfl⟩
    case refine_4 =>
     intro vs lo hi W hB hv
     have e2 : vs 2 = .bool false := ((hv ⟨2, .data⟩ (by simp) rfl).1)
     clear hv
     simp only [e2]
     go_wp2
     exact ⟨.bool false, by rw [← e2]; rfl, Below.refl _ _, rfl⟩
    case refine_5 =>
     intro vs lo hi W hB hv
     have e3 : vs 3 = .bool false := ((hv ⟨3, .guard⟩ (by simp) rfl).1)
     clear hv
     simp only [e3]
     go_wp2
     exact ⟨.pointer (some ⟨g, 0, none⟩), by rw [← e3]; rfl, Below.refl _ _, rfl⟩
    case refine_6 =>
     intro vs lo hi W hB hv
     have e4 : vs 4 = .pointer (some ⟨g, 0, none⟩) := ((hv ⟨4, .data⟩ (by simp) rfl).1)
     have e3 : vs 3 = .bool false := ((hv ⟨3, .guard⟩ (by simp) rfl).1)
     clear hv
     simp only [e4, e3]
     go_wp2
     exact ⟨.pointer (some ⟨g, 0, none⟩), by rw [← e4, ← e3]; rfl, Below.refl _ _, rfl⟩
    case refine_7 =>
     intro vs lo hi W hB hv
     have e5 : vs 5 = .pointer (some ⟨g, 0, none⟩) := ((hv ⟨5, .data⟩ (by simp) rfl).1)
     have e3 : vs 3 = .bool false := ((hv ⟨3, .guard⟩ (by simp) rfl).1)
     clear hv
     simp only [e5, e3]
     go_wp2
     exact ⟨.pointer (some ⟨g, 0, none⟩), by rw [← e5, ← e3]; rfl, Below.refl _ _, rfl⟩
    case refine_8 =>
     intro vs lo hi W hB hv
     have e6 : vs 6 = .pointer (some ⟨g, 0, none⟩) := ((hv ⟨6, .data⟩ (by simp) rfl).1)
     have e3 : vs 3 = .bool false := ((hv ⟨3, .guard⟩ (by simp) rfl).1)
     obtain ⟨l0, l1, l2, l3⟩ := hcell2.out W (below_on hB1.out hB)
     have r0 : W.cell? ⟨bl, 0, none⟩ = some (.int .i64 a.kind) := (hB.cell (p := ⟨bl, 0, none⟩) hbs).trans q0
     have r1 : W.cell? ⟨bl, 1, none⟩ = some (.int .i64 a.var) := (hB.cell (p := ⟨bl, 1, none⟩) hbs).trans q1
     have r2 : W.cell? ⟨bl, 2, none⟩ = some (.int .i64 a.n) := (hB.cell (p := ⟨bl, 2, none⟩) hbs).trans q2
     clear hv
     simp only [e6, e3]
     go_wp2
     exact ⟨.agg #[.int .i64 x.vars, .int .i64 x.vol, .int .i64 x.locks, .slice (some ⟨b1, o1, none⟩) x.thr.length tc], by rw [← e6, ← e3]; rfl, Below.refl _ _, rfl⟩
    case refine_9 =>
     intro vs lo hi W hB hv
     have e3 : vs 3 = .bool false := ((hv ⟨3, .guard⟩ (by simp) rfl).1)
     obtain ⟨l0, l1, l2, l3⟩ := hcell2.out W (below_on hB1.out hB)
     have r0 : W.cell? ⟨bl, 0, none⟩ = some (.int .i64 a.kind) := (hB.cell (p := ⟨bl, 0, none⟩) hbs).trans q0
     have r1 : W.cell? ⟨bl, 1, none⟩ = some (.int .i64 a.var) := (hB.cell (p := ⟨bl, 1, none⟩) hbs).trans q1
     have r2 : W.cell? ⟨bl, 2, none⟩ = some (.int .i64 a.n) := (hB.cell (p := ⟨bl, 2, none⟩) hbs).trans q2
     clear hv
     simp only [e3]
     go_wp2
     exact ⟨.agg #[.int .i64 a.kind, .int .i64 a.var, .int .i64 a.n], by rw [← e3]; rfl, Below.refl _ _, rfl⟩
    case refine_10 =>
     intro vs lo hi W hB hv
     have e7 : vs 7 = .agg #[.int .i64 x.vars, .int .i64 x.vol, .int .i64 x.locks, .slice (some ⟨b1, o1, none⟩) x.thr.length tc] := ((hv ⟨7, .data⟩ (by simp) rfl).1)
     have e8 : vs 8 = .agg #[.int .i64 a.kind, .int .i64 a.var, .int .i64 a.n] := ((hv ⟨8, .data⟩ (by simp) rfl).1)
     have e3 : vs 3 = .bool false := ((hv ⟨3, .chain⟩ (by simp) rfl).1)
     have hpH : Hid (Calls Tryz.prog 71 #[.agg #[.int .i64 x.vars, .int .i64 x.vol, .int .i64 x.locks, .slice (some ⟨b1, o1, none⟩) x.thr.length tc], .agg #[.int .i64 a.kind, .int .i64 a.var, .int .i64 a.n]] W fun e w' => e = .returned (.bool (!isL a && decide (x.vol ≤ a.var))) ∧ Below W.heap.size W w') := isPlain_calls x.vars x.vol x.locks _ x.thr.length tc a W
     clear hv
     simp only [e7, e8, e3]
     go_wp2_with (go_at_call 71; refine (show Calls _ _ _ _ _ from hpH.out).mono ?_; rintro e w2 ⟨rfl, hb2⟩)
     exact ⟨.bool (!isL a && decide (x.vol ≤ a.var)), by rw [← e7, ← e8, ← e3]; rfl, hb2, rfl⟩
    case refine_11 =>
     intro vs lo hi W hB hv
     have e3 : vs 3 = .bool false := ((hv ⟨3, .data⟩ (by simp) rfl).1)
     have e9 : vs 9 = .bool (!isL a && decide (x.vol ≤ a.var)) := ((hv ⟨9, .data⟩ (by simp) rfl).1)
     clear hv
     simp only [e3, e9]
     go_wp2
     exact ⟨.bool (!isL a && decide (x.vol ≤ a.var)), by rw [← e3, ← e9]; rfl, Below.refl _ _, rfl⟩
    case refine_12 =>
     intro vs lo hi W hB hv
     have e10 : vs 10 = .bool (!isL a && decide (x.vol ≤ a.var)) := ((hv ⟨10, .data⟩ (by simp) rfl).1)
     clear hv
     simp only [e10]
     go_wp2
     exact ⟨.bool (!isL a && decide (x.vol ≤ a.var)), by rw [← e10]; rfl, Below.refl _ _, rfl⟩
    case refine_13 =>
     intro vs lo hi W hB hv _ _
     have e0 : vs 0 = .pointer (some ⟨bl, 0, none⟩) := (hv 0 (by simp))
     have e1 : vs 1 = .int .i64 a.kind := (hv 1 (by simp))
     have e2 : vs 2 = .bool false := (hv 2 (by simp))
     have e3 : vs 3 = .bool false := (hv 3 (by simp))
     have e4 : vs 4 = .pointer (some ⟨g, 0, none⟩) := (hv 4 (by simp))
     have e5 : vs 5 = .pointer (some ⟨g, 0, none⟩) := (hv 5 (by simp))
     have e6 : vs 6 = .pointer (some ⟨g, 0, none⟩) := (hv 6 (by simp))
     have e7 : vs 7 = .agg #[.int .i64 x.vars, .int .i64 x.vol, .int .i64 x.locks, .slice (some ⟨b1, o1, none⟩) x.thr.length tc] := (hv 7 (by simp))
     have e8 : vs 8 = .agg #[.int .i64 a.kind, .int .i64 a.var, .int .i64 a.n] := (hv 8 (by simp))
     have e9 : vs 9 = .bool (!isL a && decide (x.vol ≤ a.var)) := (hv 9 (by simp))
     have e10 : vs 10 = .bool (!isL a && decide (x.vol ≤ a.var)) := (hv 10 (by simp))
     have e11 : vs 11 = .bool (!isL a && decide (x.vol ≤ a.var)) := (hv 11 (by simp))
     clear hv
     simp only [e0, e1, e2, e3, e4, e5, e6, e7, e8, e9, e10, e11]
     have hBW : Hid (Below w.heap.size w W) := below_on hB1.out hB
     have r0 : W.cell? ⟨bl, 0, none⟩ = some (.int .i64 a.kind) := (hB.cell (p := ⟨bl, 0, none⟩) hbs).trans q0
     have r1 : W.cell? ⟨bl, 1, none⟩ = some (.int .i64 a.var) := (hB.cell (p := ⟨bl, 1, none⟩) hbs).trans q1
     clear hB q0 q1 q2 e0 e1 e2 e3 e4 e5 e6 e7 e8 e9 e10 e11
     cases hpl : (!isL a && decide (x.vol ≤ a.var)) with
     | true =>
      go_wp2
      go_ret
      exact ⟨by rw [hpl]; simp, hBW.out⟩
     | false =>
      have hdd : decide ((p : Int) < p) = false := by simp
      by_cases hk4 : a.kind = 4
      ·have hk4b : (a.kind != 4) = false := by simp [hk4]
       go_wp2_with (first | (go_at_call 72; refine (hus.out _ hBW.out).mono ?_; rintro e w2 ⟨rfl, rfl⟩; rw [hdd]) | (go_at_call 73; refine (hfr.out _ hBW.out).mono ?_; rintro e w3 ⟨rfl, hb3⟩))
       go_ret
       exact ⟨by rw [hk1, hpl, hk4b]; rfl, below_on hBW.out hb3⟩
      ·have hk4b : (a.kind != 4) = true := by simpa using hk4
       go_wp2_with (first | (go_at_call 72; refine (hus.out _ hBW.out).mono ?_; rintro e w2 ⟨rfl, rfl⟩; rw [hdd]))
       go_ret
       exact ⟨by rw [hk4b]; simp, hBW.out⟩

set_option maxRecDepth 1000000 in
set_option maxHeartbeats 8000000 in
theorem canGoOn_no (x : LitL) (g gm t p : Nat) (ta : Option Addr) (tc : Nat) (w : World) (lo hi : Nat) (hh : hi ≤ w.heap.size) (hx : ListAt ThrR 1 true lo hi w (.slice ta x.thr.length tc) x.thr) (hg : g < w.heap.size) (hgm : gm < w.heap.size) (hc : w.cell? ⟨g, 3, none⟩ = some (.slice ta x.thr.length tc)) (hn3 : x.thr.length ≤ 3) (ht : t < x.thr.length) (hp4 : p ≤ 4) (hmp : w.cell? ⟨gm, t, none⟩ = some (.int .i16 (p : Int))) (hpe : p = (x.thr[t]).length) :
  Calls Tryz.prog 50 #[.pointer (some ⟨g, 0, none⟩), .pointer (some ⟨gm, 0, none⟩), .int .i64 (t : Int)] w fun e w' => e = .returned (.bool false) ∧ Below w.heap.size w w' := by
 obtain ⟨b1, o1, row, rfl, hbb, hrl, hrr, ⟨u, rfl, hlu⟩⟩ := hx.at t ht
 obtain ⟨ua, uc, rfl⟩ := hlu.form
 obtain ⟨len, hle⟩ : ∃ len, len = (x.thr[t]).length := ⟨_, rfl⟩
 rw [← hle] at hrr hpe
 have hcell : Hid (∀ W, Below w.heap.size w W → W.cell? ⟨g, 3, none⟩ = some (.slice (some ⟨b1, o1, none⟩) x.thr.length tc) ∧ W.cell? ⟨b1, o1 + t, none⟩ = some (.slice ua len uc)) := fun W hW =>
  ⟨(hW.cell (p := ⟨g, 3, none⟩) hg).trans hc, (hW.cell (p := ⟨b1, o1 + t, none⟩) (show b1 < _ by omega)).trans (by simpa using hrr 0 _ rfl)⟩
 have hnx : Hid (∀ W, Below w.heap.size w W → Calls Tryz.prog 51 #[.pointer (some ⟨gm, 0, none⟩), .int .i64 (t : Int)] W fun e w' => e = .returned (.int .i64 (p : Int)) ∧ w' = W) := fun W hW => next_calls gm t p W (by omega) (by omega) ((hW.cell (p := ⟨gm, t, none⟩) hgm).trans hmp)
 have p1 : (t : Int) < x.thr.length := by omega
 have heq : ((p : Int) == (len : Int)) = true := by simp; omega
 clear hx hc hmp hlu hrr hrl hpe hle
 go_enter Tryz.func50, Tryz.ntmps50
 go_wp2_with fail
 refine wp_region_own (by kernel_rfl) (fun vs => { tmps := #[.pointer (some ⟨g, 0, none⟩), .pointer (some ⟨gm, 0, none⟩), .int .i64 (t : Int), undef, undef, undef, .bool false, undef, vs 0, vs 1, vs 2, vs 3, vs 4, vs 5, vs 6, vs 7, vs 8, vs 9, vs 10, vs 11, vs 12, undef, undef, undef, undef, undef, undef, undef, undef, undef, undef, undef, undef, undef, undef, undef, undef, undef, undef, undef, undef, undef, undef, undef, undef, undef, undef, undef, undef, undef, undef, undef, undef, undef, undef, undef, undef, undef, undef, undef], defers := [] }) (lv [.pointer (some ⟨gm, 0, none⟩), .int .i64 (t : Int), .int .i64 (p : Int), .pointer (some ⟨g, 0, none⟩), .pointer (some ⟨g, 0, none⟩), .pointer (some ⟨g, 0, none⟩), .pointer (some ⟨g, 3, none⟩), .slice (some ⟨b1, o1, none⟩) x.thr.length tc, .int .i64 (t : Int), .pointer (some ⟨b1, o1 + t, none⟩), .slice ua len uc, .int .i64 (len : Int), .bool true]) (fun i => undef) rfl (fun _ _ _ _ _ _ _ _ h => h) (allAt_all ⟨?_, ?_, ?_, ?_, ?_, ?_, ?_, ?_, ?_, ?_, ?_, ?_, ?_, trivial⟩) ?_ (regForward_done (by kernel_rfl))
 case refine_1 =>
  intro vs lo hi W hB hv
  clear hv
  go_wp2
  exact ⟨.pointer (some ⟨gm, 0, none⟩), by rfl, Below.refl _ _, rfl⟩
 case refine_2 =>
  intro vs lo hi W hB hv
  clear hv
  go_wp2
  exact ⟨.int .i64 (t : Int), by rfl, Below.refl _ _, rfl⟩
 case refine_3 =>
  intro vs lo hi W hB hv
  have e0 : vs 0 = .pointer (some ⟨gm, 0, none⟩) := ((hv ⟨0, .data⟩ (by simp) rfl).1)
  have e1 : vs 1 = .int .i64 (t : Int) := ((hv ⟨1, .data⟩ (by simp) rfl).1)
  have hn := hnx.out W hB
  have hnH : Hid (Calls Tryz.prog 51 #[.pointer (some ⟨gm, 0, none⟩), .int .i64 (t : Int)] W fun e w' => e = .returned (.int .i64 (p : Int)) ∧ w' = W) := hn
  clear hn
  clear hv
  simp only [e0, e1]
  go_wp2_with (go_at_call 51; refine (show Calls _ _ _ _ _ from hnH.out).mono ?_; rintro e w2 ⟨rfl, rfl⟩)
  exact ⟨.int .i64 (p : Int), by rw [← e0, ← e1]; rfl, Below.refl _ _, rfl⟩
 case refine_4 =>
  intro vs lo hi W hB hv
  clear hv
  go_wp2
  exact ⟨.pointer (some ⟨g, 0, none⟩), by rfl, Below.refl _ _, rfl⟩
 case refine_5 =>
  intro vs lo hi W hB hv
  have e3 : vs 3 = .pointer (some ⟨g, 0, none⟩) := ((hv ⟨3, .data⟩ (by simp) rfl).1)
  clear hv
  simp only [e3]
  go_wp2
  exact ⟨.pointer (some ⟨g, 0, none⟩), by rw [← e3]; rfl, Below.refl _ _, rfl⟩
 case refine_6 =>
  intro vs lo hi W hB hv
  have e4 : vs 4 = .pointer (some ⟨g, 0, none⟩) := ((hv ⟨4, .data⟩ (by simp) rfl).1)
  clear hv
  simp only [e4]
  go_wp2
  exact ⟨.pointer (some ⟨g, 0, none⟩), by rw [← e4]; rfl, Below.refl _ _, rfl⟩
 case refine_7 =>
  intro vs lo hi W hB hv
  have e5 : vs 5 = .pointer (some ⟨g, 0, none⟩) := ((hv ⟨5, .data⟩ (by simp) rfl).1)
  clear hv
  simp only [e5]
  go_wp2
  exact ⟨.pointer (some ⟨g, 3, none⟩), by rw [← e5]; rfl, Below.refl _ _, rfl⟩
 case refine_8 =>
  intro vs lo hi W hB hv
  have e6 : vs 6 = .pointer (some ⟨g, 3, none⟩) := ((hv ⟨6, .data⟩ (by simp) rfl).1)
  obtain ⟨c3, c1⟩ := hcell.out W hB
  clear hv
  simp only [e6]
  go_wp2
  exact ⟨.slice (some ⟨b1, o1, none⟩) x.thr.length tc, by rw [← e6]; rfl, Below.refl _ _, rfl⟩
 case refine_9 =>
  intro vs lo hi W hB hv
  clear hv
  go_wp2
  exact ⟨.int .i64 (t : Int), by rfl, Below.refl _ _, rfl⟩
 case refine_10 =>
  intro vs lo hi W hB hv
  have e7 : vs 7 = .slice (some ⟨b1, o1, none⟩) x.thr.length tc := ((hv ⟨7, .data⟩ (by simp) rfl).1)
  have e8 : vs 8 = .int .i64 (t : Int) := ((hv ⟨8, .data⟩ (by simp) rfl).1)
  clear hv
  simp only [e7, e8]
  go_wp2
  exact ⟨.pointer (some ⟨b1, o1 + t, none⟩), by rw [← e7, ← e8]; rfl, Below.refl _ _, rfl⟩
 case refine_11 =>
  intro vs lo hi W hB hv
  have e9 : vs 9 = .pointer (some ⟨b1, o1 + t, none⟩) := ((hv ⟨9, .data⟩ (by simp) rfl).1)
  obtain ⟨c3, c1⟩ := hcell.out W hB
  clear hv
  simp only [e9]
  go_wp2
  exact ⟨.slice ua len uc, by rw [← e9]; rfl, Below.refl _ _, rfl⟩
 case refine_12 =>
  intro vs lo hi W hB hv
  have e10 : vs 10 = .slice ua len uc := ((hv ⟨10, .data⟩ (by simp) rfl).1)
  clear hv
  simp only [e10]
  go_wp2
  exact ⟨.int .i64 (len : Int), by rw [← e10]; rfl, Below.refl _ _, rfl⟩
 case refine_13 =>
  intro vs lo hi W hB hv
  have e2 : vs 2 = .int .i64 (p : Int) := ((hv ⟨2, .data⟩ (by simp) rfl).1)
  have e11 : vs 11 = .int .i64 (len : Int) := ((hv ⟨11, .data⟩ (by simp) rfl).1)
  clear hv
  simp only [e2, e11]
  go_wp2
  exact ⟨.bool true, by rw [← e2, ← e11]; rfl, Below.refl _ _, rfl⟩
 case refine_14 =>
  intro vs lo hi W hB hv _ _
  have e0 : vs 0 = .pointer (some ⟨gm, 0, none⟩) := (hv 0 (by simp))
  have e1 : vs 1 = .int .i64 (t : Int) := (hv 1 (by simp))
  have e2 : vs 2 = .int .i64 (p : Int) := (hv 2 (by simp))
  have e3 : vs 3 = .pointer (some ⟨g, 0, none⟩) := (hv 3 (by simp))
  have e4 : vs 4 = .pointer (some ⟨g, 0, none⟩) := (hv 4 (by simp))
  have e5 : vs 5 = .pointer (some ⟨g, 0, none⟩) := (hv 5 (by simp))
  have e6 : vs 6 = .pointer (some ⟨g, 3, none⟩) := (hv 6 (by simp))
  have e7 : vs 7 = .slice (some ⟨b1, o1, none⟩) x.thr.length tc := (hv 7 (by simp))
  have e8 : vs 8 = .int .i64 (t : Int) := (hv 8 (by simp))
  have e9 : vs 9 = .pointer (some ⟨b1, o1 + t, none⟩) := (hv 9 (by simp))
  have e10 : vs 10 = .slice ua len uc := (hv 10 (by simp))
  have e11 : vs 11 = .int .i64 (len : Int) := (hv 11 (by simp))
  have e12 : vs 12 = .bool true := (hv 12 (by simp))
  clear hv
  simp only [e0, e1, e2, e3, e4, e5, e6, e7, e8, e9, e10, e11, e12]
  have hBH : Hid (Below w.heap.size w W) := hB
  clear hB e0 e1 e2 e3 e4 e5 e6 e7 e8 e9 e10 e11 e12
  go_wp2
  go_ret
  exact ⟨rfl, hBH.out⟩
end Go.Proofs.YtknbchheoloaoaaGreat
