/- Two acts in conflict: one of the ways. -/
import Derived.Test.YtknbchheoloaoaaGreatSoV
namespace Go.Proofs.YtknbchheoloaoaaGreat
set_option linter.unusedVariables false
open Go.ChangeShapes Go.WideShapes Go.ChangeAt Go.RowKit

set_option maxRecDepth 1000000 in
set_option maxHeartbeats 8000000 in
theorem cconf1 (x : LitL) (p q : DoneL) (a b : ActL) (g : Nat) (ta : Option Addr) (tc : Nat) (w : World) (lo hi : Nat) (hh : hi ≤ w.heap.size) (hx : ListAt ThrR 1 true lo hi w (.slice ta x.thr.length tc) x.thr) (hg : g < w.heap.size) (hc : w.rangeAt g 0 [.int .i64 x.vars, .int .i64 x.vol, .int .i64 x.locks, .slice ta x.thr.length tc]) (ha : actAt x p.t p.k = some a) (hb : actAt x q.t q.k = some b) (hans : confP x p q a b = raceC x p q) (hpb0 : ((p.t : Int) != q.t) = false) :
  Calls Tryz.prog 58 #[.pointer (some ⟨g, 0, none⟩), .agg #[.int .i64 p.t, .int .i64 p.k], .agg #[.int .i64 q.t, .int .i64 q.k]] w fun e w' => e = .returned (.bool (raceC x p q)) ∧ Below w.heap.size w w' := by
 rw [← hans]
 generalize hRe : confP x p q a b = R
 have hR : Hid (R = confP x p q a b) := hRe.symm
 clear hRe hans
 obtain ⟨W0, hW0⟩ : ∃ W0 : World, W0 = (w.alloc (.cells #[.int .i64 p.t, .int .i64 p.k] 53)).alloc (.cells #[.int .i64 q.t, .int .i64 q.k] 53) := ⟨_, rfl⟩
 have e0 : W0.heap[w.heap.size]? = some (.cells #[.int .i64 p.t, .int .i64 p.k] 53) := by
  rw [hW0, Below.heap_alloc _ _ _ (by simp)]; exact heap_alloc_new _ _
 have e1 : W0.heap[w.heap.size + 1]? = some (.cells #[.int .i64 q.t, .int .i64 q.k] 53) := by
  rw [hW0]; have := heap_alloc_new (w.alloc (.cells #[.int .i64 p.t, .int .i64 p.k] 53)) (.cells #[.int .i64 q.t, .int .i64 q.k] 53); simpa using this
 have hsz : w.heap.size + 2 ≤ W0.heap.size := by rw [hW0]; simp
 have hb0 : Hid (Below w.heap.size w W0) := by show Below _ _ _; rw [hW0]; exact below_on (below_1 _ _) (below_1 _ _)
 have hcr : Hid (∀ W, Below W0.heap.size W0 W → W.cell? ⟨w.heap.size, 0, none⟩ = some (.int .i64 p.t) ∧ W.cell? ⟨w.heap.size, 1, none⟩ = some (.int .i64 p.k) ∧ W.cell? ⟨w.heap.size + 1, 0, none⟩ = some (.int .i64 q.t) ∧ W.cell? ⟨w.heap.size + 1, 1, none⟩ = some (.int .i64 q.k)) := fun W hW => by
  have c : ∀ (n : Nat) (o : Nat), n < W0.heap.size → W.cell? ⟨n, o, none⟩ = W0.cell? ⟨n, o, none⟩ := fun n o h => hW.cell (p := ⟨n, o, none⟩) h
  exact ⟨by rw [c _ _ (by omega)]; exact rangeAt_heap e0 0 _ rfl, by rw [c _ _ (by omega)]; exact rangeAt_heap e0 1 _ rfl, by rw [c _ _ (by omega)]; exact rangeAt_heap e1 0 _ rfl, by rw [c _ _ (by omega)]; exact rangeAt_heap e1 1 _ rfl⟩
 have hcg : Hid (∀ W, Below w.heap.size w W → W.cell? ⟨g, 0, none⟩ = some (.int .i64 x.vars) ∧ W.cell? ⟨g, 1, none⟩ = some (.int .i64 x.vol) ∧ W.cell? ⟨g, 2, none⟩ = some (.int .i64 x.locks) ∧ W.cell? ⟨g, 3, none⟩ = some (.slice ta x.thr.length tc)) := fun W hW => by
  have c : ∀ (o : Nat), W.cell? ⟨g, o, none⟩ = w.cell? ⟨g, o, none⟩ := fun o => hW.cell (p := ⟨g, o, none⟩) hg
  exact ⟨(c 0).trans (hc 0 _ rfl), (c 1).trans (hc 1 _ rfl), (c 2).trans (hc 2 _ rfl), (c 3).trans (hc 3 _ rfl)⟩
 have hac : Hid (∀ (d : DoneL) (y : ActL), actAt x d.t d.k = some y → ∀ W, Below W0.heap.size W0 W → Calls Tryz.prog 80 #[.pointer (some ⟨g, 0, none⟩), .agg #[.int .i64 d.t, .int .i64 d.k]] W fun e w' => e = .returned (.agg #[.int .i64 y.kind, .int .i64 y.var, .int .i64 y.n]) ∧ Below W.heap.size W w') := fun d y hd W hW => by
  have hw := below_on hb0.out hW
  have hsw := hw.size
  exact cact_calls x d y g ta tc W lo hi (by omega) (hx.kept ThrR.stable (Nat.le_refl _) (Nat.le_refl _) (fun r h1 h2 => Same.below hw r (Nat.zero_le _) (by omega))) (by omega) (hcg.out W hw).2.2.2 hd
 have hAa := hac.out p a ha
 have hAb := hac.out q b hb
 have hszH : Hid (w.heap.size + 2 ≤ W0.heap.size) := hsz
 clear hac e0 e1 hx hc ha hb hsz
 have hAaH : Hid (∀ W, Below W0.heap.size W0 W → Calls Tryz.prog 80 #[.pointer (some ⟨g, 0, none⟩), .agg #[.int .i64 p.t, .int .i64 p.k]] W fun e w' => e = .returned (.agg #[.int .i64 a.kind, .int .i64 a.var, .int .i64 a.n]) ∧ Below W.heap.size W w') := hAa
 have hAbH : Hid (∀ W, Below W0.heap.size W0 W → Calls Tryz.prog 80 #[.pointer (some ⟨g, 0, none⟩), .agg #[.int .i64 q.t, .int .i64 q.k]] W fun e w' => e = .returned (.agg #[.int .i64 b.kind, .int .i64 b.var, .int .i64 b.n]) ∧ Below W.heap.size W w') := hAb
 clear hAa hAb
 go_enter Tryz.func58, Tryz.ntmps58
 go_wp2_with fail
 rw [← hW0]
 clear hW0
 refine wp_region_mixed (by kernel_rfl) (fun vs => { tmps := #[.pointer (some ⟨g, 0, none⟩), .agg #[.int .i64 p.t, .int .i64 p.k], .agg #[.int .i64 q.t, .int .i64 q.k], undef, .pointer (some ⟨w.heap.size, 0, none⟩), .pointer (some ⟨w.heap.size + 1, 0, none⟩), .bool false, vs 6, vs 7, vs 0, vs 1, vs 2, vs 3, vs 4, vs 5, undef, undef, undef, undef, undef, undef, undef, undef, undef, undef, undef, undef, undef, undef, undef, undef, undef, undef, undef, undef, undef, undef, undef, undef, undef, undef, undef, undef, undef, undef, undef, undef, undef, undef, undef, undef], defers := [] }) (cfVal g p q a b) (fun _ => none) (by simp) (by simp) 8 [] (fun _ => false) (fun _ _ => True) (fun _ vs W => cfR W0 a b vs W) (fun _ => undef) rfl (by kernel_rfl) (cfVal_below g p q a b) (fun i v lo hi w hp h => trivial) (fun k vs i v w hp h => absurd hp (by simp)) (allAt_all ⟨?_, ?_, ?_, ?_, ?_, ?_, ?_, ?_, ?_, ?_, trivial⟩) (allAt_all ⟨?_, ?_, ?_, ?_, ?_, ?_, ?_, ?_, ?_, ?_, trivial⟩) ?_ ?_ ?_
 case refine_1 =>
  intro _ _ vs lo hi W hB hv
  go_wp2
  exact RegPost.own _ rfl (Below.refl _ _) rfl
 case refine_2 =>
  intro _ _ vs lo hi W hB hv
  obtain ⟨c0, c1, c2, c3⟩ := hcr.out W hB
  go_wp2
  exact RegPost.own (.agg #[.int .i64 p.t, .int .i64 p.k]) rfl (Below.refl _ _) rfl
 case refine_3 =>
  intro _ _ vs lo hi W hB hv
  have e1 : vs 0 = .pointer (some ⟨g, 0, none⟩) := (hv ⟨0, .data⟩ (by simp) rfl).1
  have e2 : vs 1 = .agg #[.int .i64 p.t, .int .i64 p.k] := (hv ⟨1, .data⟩ (by simp) rfl).1
  have hcl := hAaH.out W hB
  have hclH : Hid (Calls Tryz.prog 80 #[.pointer (some ⟨g, 0, none⟩), .agg #[.int .i64 p.t, .int .i64 p.k]] W fun e w' => e = .returned (.agg #[.int .i64 a.kind, .int .i64 a.var, .int .i64 a.n]) ∧ Below W.heap.size W w') := hcl
  clear hv hcl
  simp only [e1, e2]
  go_wp2_with (go_at_call 80; refine (show Calls _ _ _ _ _ from hclH.out).mono ?_; rintro e w2 ⟨rfl, hb2⟩)
  exact RegPost.own (.agg #[.int .i64 a.kind, .int .i64 a.var, .int .i64 a.n]) (by simp [upd, e1, e2]) hb2 rfl
 case refine_4 =>
  intro _ _ vs lo hi W hB hv
  go_wp2
  exact RegPost.own _ rfl (Below.refl _ _) rfl
 case refine_5 =>
  intro _ _ vs lo hi W hB hv
  obtain ⟨c0, c1, c2, c3⟩ := hcr.out W hB
  go_wp2
  exact RegPost.own (.agg #[.int .i64 q.t, .int .i64 q.k]) rfl (Below.refl _ _) rfl
 case refine_6 =>
  intro _ _ vs lo hi W hB hv
  have e1 : vs 3 = .pointer (some ⟨g, 0, none⟩) := (hv ⟨3, .data⟩ (by simp) rfl).1
  have e2 : vs 4 = .agg #[.int .i64 q.t, .int .i64 q.k] := (hv ⟨4, .data⟩ (by simp) rfl).1
  have hcl := hAbH.out W hB
  have hclH : Hid (Calls Tryz.prog 80 #[.pointer (some ⟨g, 0, none⟩), .agg #[.int .i64 q.t, .int .i64 q.k]] W fun e w' => e = .returned (.agg #[.int .i64 b.kind, .int .i64 b.var, .int .i64 b.n]) ∧ Below W.heap.size W w') := hcl
  clear hv hcl
  simp only [e1, e2]
  go_wp2_with (go_at_call 80; refine (show Calls _ _ _ _ _ from hclH.out).mono ?_; rintro e w2 ⟨rfl, hb2⟩)
  exact RegPost.own (.agg #[.int .i64 b.kind, .int .i64 b.var, .int .i64 b.n]) (by simp [upd, e1, e2]) hb2 rfl
 case refine_7 =>
  intro _ _ vs lo hi W hB hv
  go_wp2
  exact RegPost.own (.pointer (some ⟨W.heap.size, 0, none⟩)) rfl (below_1 _ _) ⟨rfl, there_heap (heap_alloc_new W _), by simp⟩
 case refine_8 =>
  intro _ _ vs lo hi W hB hv
  go_wp2
  exact RegPost.own (.pointer (some ⟨W.heap.size, 0, none⟩)) rfl (below_1 _ _) ⟨rfl, there_heap (heap_alloc_new W _), by simp⟩
 case refine_9 =>
  exact fun h => absurd (by decide) h
 case refine_10 =>
  exact fun _ h => absurd h (by simp)
 case refine_11 =>
  exact fun h => absurd h (by decide)
 case refine_12 =>
  exact fun h => absurd h (by decide)
 case refine_13 =>
  exact fun h => absurd h (by decide)
 case refine_14 =>
  exact fun h => absurd h (by decide)
 case refine_15 =>
  exact fun h => absurd h (by decide)
 case refine_16 =>
  exact fun h => absurd h (by decide)
 case refine_17 =>
  exact fun h => absurd h (by decide)
 case refine_18 =>
  exact fun h => absurd h (by decide)
 case refine_19 =>
  exact fun h => absurd h (by decide)
 case refine_20 =>
  exact fun h => absurd h (by decide)
 case refine_21 =>
  intro o ho vs lo hi W hB hv
  obtain rfl := Option.some.inj ho
  obtain ⟨⟨e6, t6, l6⟩, g6, k6, d6⟩ := hv ⟨6, .data⟩ (by simp) rfl
  obtain ⟨⟨e7, t7, l7⟩, g7, k7, _⟩ := hv ⟨7, .phase⟩ (by simp) rfl
  have e2 : vs 2 = .agg #[.int .i64 a.kind, .int .i64 a.var, .int .i64 a.n] := (hv ⟨2, .data⟩ (by simp) rfl).1
  have e5 : vs 5 = .agg #[.int .i64 b.kind, .int .i64 b.var, .int .i64 b.n] := (hv ⟨5, .chain⟩ (by simp) rfl).1
  dsimp only at e6 t6 l6 g6 k6 e7 t7 l7 g7 k7
  have hne : lo 6 ≠ lo 7 := by
   rcases d6 ⟨7, .phase⟩ (by simp) rfl (by simp) (by simp) (by simp) with h | h <;> ((try dsimp only at h); omega)
  refine wpList_store_mid rfl 60 _ _ rfl (lo 6) 0 #[.int .i64 a.kind, .int .i64 a.var, .int .i64 a.n] e6 e2 t6 (by kernel_rfl) (all_oneCell_toArray (cs := [.int .i64 a.kind, .int .i64 a.var, .int .i64 a.n]) (by simp [Value.oneCell'])) ?_
  refine wpList_nil ?_
  exact ⟨undef, rfl, lo 6, lo 7, below_setCells _ g6 _ _ _ hB, e6, e7, e5, World.rangeAt_setCells_same W _ _ _ t6, World.there_setCells t7 _ _ _, hne, g6, g7, by rw [size_setCells]; omega, by rw [size_setCells]; omega⟩
 case refine_22 =>
  intro k c o hk
  simp at hk
 case refine_23 =>
  intro o ho vs W hR hv
  obtain rfl := Option.some.inj ho
  obtain ⟨l6, l7, hB, e6, e7, e5, r6, t7, hne, g6, g7, k6, k7⟩ := hR
  refine wpList_store_mid rfl 60 _ _ rfl l7 0 #[.int .i64 b.kind, .int .i64 b.var, .int .i64 b.n] e7 e5 t7 (by kernel_rfl) (all_oneCell_toArray (cs := [.int .i64 b.kind, .int .i64 b.var, .int .i64 b.n]) (by simp [Value.oneCell'])) ?_
  refine wpList_nil ?_
  have hCf : Hid (CfW w (W.setCells l7 0 [.int .i64 b.kind, .int .i64 b.var, .int .i64 b.n]) g l6 l7 x (.slice ta x.thr.length tc) p q a b) := by
   have hB2 := below_setCells l7 g7 [.int .i64 b.kind, .int .i64 b.var, .int .i64 b.n] 0 W hB
   have hBw := below_on hb0.out hB2
   obtain ⟨c0, c1, c2, c3⟩ := hcr.out _ hB2
   obtain ⟨d0, d1, d2, d3⟩ := hcg.out _ hBw
   have ra := World.rangeAt_setCells_apart r6 l7 0 [.int .i64 b.kind, .int .i64 b.var, .int .i64 b.n] (.inl hne)
   have rb := World.rangeAt_setCells_same W l7 0 [.int .i64 b.kind, .int .i64 b.var, .int .i64 b.n] t7
   exact ⟨hBw, d0, d1, d2, d3, c0, c2, ra 0 _ rfl, ra 1 _ rfl, ra 2 _ rfl, rb 0 _ rfl, rb 1 _ rfl, rb 2 _ rfl⟩
  clear r6 t7 hB hv e5 hcr hcg hAaH hAbH hb0 hszH
  have hkk : Hid (l6 < (W.setCells l7 0 [.int .i64 b.kind, .int .i64 b.var, .int .i64 b.n]).heap.size ∧ l7 < (W.setCells l7 0 [.int .i64 b.kind, .int .i64 b.var, .int .i64 b.n]).heap.size) := by show _ ∧ _; rw [size_setCells]; exact ⟨k6, k7⟩
  clear g6 g7 k6 k7
  generalize W.setCells l7 0 [.int .i64 b.kind, .int .i64 b.var, .int .i64 b.n] = W1 at *
  simp only [e6, e7]
  clear e6 e7
  generalize vs 0 = s0 at *
  generalize vs 1 = s1 at *
  generalize vs 2 = s2 at *
  generalize vs 3 = s3 at *
  generalize vs 4 = s4 at *
  generalize vs 5 = s5 at *
  clear vs
  obtain ⟨hBw, l0, l1, l2, l3, p0, q0, a0, a1, a2, b0, b1, b2⟩ := hCf.out
  have hcell : Hid (∀ W, Below W1.heap.size W1 W → (W.cell? ⟨g, 0, none⟩ = some (.int .i64 x.vars) ∧ W.cell? ⟨g, 1, none⟩ = some (.int .i64 x.vol) ∧ W.cell? ⟨g, 2, none⟩ = some (.int .i64 x.locks) ∧ W.cell? ⟨g, 3, none⟩ = some (.slice ta x.thr.length tc)) ∧ (W.cell? ⟨w.heap.size, 0, none⟩ = some (.int .i64 p.t) ∧ W.cell? ⟨w.heap.size + 1, 0, none⟩ = some (.int .i64 q.t)) ∧ (W.cell? ⟨l6, 0, none⟩ = some (.int .i64 a.kind) ∧ W.cell? ⟨l6, 1, none⟩ = some (.int .i64 a.var) ∧ W.cell? ⟨l6, 2, none⟩ = some (.int .i64 a.n)) ∧ W.cell? ⟨l7, 0, none⟩ = some (.int .i64 b.kind) ∧ W.cell? ⟨l7, 1, none⟩ = some (.int .i64 b.var) ∧ W.cell? ⟨l7, 2, none⟩ = some (.int .i64 b.n)) := fun W hB => by
   have c : ∀ (bk o : Nat) (v : Value), W1.cell? ⟨bk, o, none⟩ = some v → W.cell? ⟨bk, o, none⟩ = some v := fun bk o v h => (hB.cell (p := ⟨bk, o, none⟩) (World.block_lt_of_cell? W1 ⟨bk, o, none⟩ h)).trans h
   exact ⟨⟨c _ _ _ l0, c _ _ _ l1, c _ _ _ l2, c _ _ _ l3⟩, ⟨c _ _ _ p0, c _ _ _ q0⟩, ⟨c _ _ _ a0, c _ _ _ a1, c _ _ _ a2⟩, c _ _ _ b0, c _ _ _ b1, c _ _ _ b2⟩
  have hBwH : Hid (Below w.heap.size w W1) := hBw
  clear hCf hBw l0 l1 l2 l3 p0 q0 a0 a1 a2 b0 b1 b2
  go_wp2_with fail
  have hRv : Hid (R = false) := by show _ = _; rw [hR.out]; unfold confP; rw [hpb0]; simp
  refine wp_region_own (by kernel_rfl) (fun vs => { tmps := #[.pointer (some ⟨g, 0, none⟩), .agg #[.int .i64 p.t, .int .i64 p.k], .agg #[.int .i64 q.t, .int .i64 q.k], undef, .pointer (some ⟨w.heap.size, 0, none⟩), .pointer (some ⟨w.heap.size + 1, 0, none⟩), vs 36, .pointer (some ⟨l6, 0, none⟩), .pointer (some ⟨l7, 0, none⟩), s0, s1, s2, s3, s4, s5, vs 0, vs 1, vs 2, vs 3, vs 4, vs 5, vs 6, vs 7, vs 8, vs 9, vs 10, vs 11, vs 12, vs 13, vs 14, vs 15, vs 16, vs 17, vs 18, vs 19, vs 20, vs 21, vs 22, vs 23, vs 24, vs 25, vs 26, vs 27, vs 28, vs 29, vs 30, vs 31, vs 32, vs 33, vs 34, vs 35], defers := [] }) (lv [.pointer (some ⟨w.heap.size, 0, none⟩), .int .i64 (p.t : Int), .pointer (some ⟨w.heap.size + 1, 0, none⟩), .int .i64 (q.t : Int), .bool false, .bool false, undef, undef, undef, undef, undef, undef, .bool false, .bool false, undef, undef, undef, undef, undef, undef, .bool false, .bool false, undef, undef, undef, undef, undef, .bool false, .bool false, undef, undef, undef, undef, undef, undef, .bool false, .bool false]) (fun i => if i = 36 then .bool false else undef) rfl (fun _ _ _ _ _ _ _ _ h => h) (allAt_all ⟨?_, ?_, ?_, ?_, ?_, ?_, ?_, ?_, ?_, ?_, ?_, ?_, ?_, ?_, ?_, ?_, ?_, ?_, ?_, ?_, ?_, ?_, ?_, ?_, ?_, ?_, ?_, ?_, ?_, ?_, ?_, ?_, ?_, ?_, ?_, ?_, ?_, trivial⟩) ?_ (regForward_done (by kernel_rfl))
  case refine_1 =>
   intro vs lo hi W hB hv
   clear hv
   go_wp2
   exact ⟨.pointer (some ⟨w.heap.size, 0, none⟩), by rfl, Below.refl _ _, rfl⟩
  case refine_2 =>
   intro vs lo hi W hB hv
   have e0 : vs 0 = .pointer (some ⟨w.heap.size, 0, none⟩) := ((hv ⟨0, .data⟩ (by simp) rfl).1)
   obtain ⟨⟨l0, l1, l2, l3⟩, ⟨p0, q0⟩, ⟨a0, a1, a2⟩, b0, b1, b2⟩ := hcell.out W hB
   clear hv
   simp only [e0]
   go_wp2
   exact ⟨.int .i64 (p.t : Int), by simp [upd, e0], Below.refl _ _, rfl⟩
  case refine_3 =>
   intro vs lo hi W hB hv
   clear hv
   go_wp2
   exact ⟨.pointer (some ⟨w.heap.size + 1, 0, none⟩), by rfl, Below.refl _ _, rfl⟩
  case refine_4 =>
   intro vs lo hi W hB hv
   have e2 : vs 2 = .pointer (some ⟨w.heap.size + 1, 0, none⟩) := ((hv ⟨2, .data⟩ (by simp) rfl).1)
   obtain ⟨⟨l0, l1, l2, l3⟩, ⟨p0, q0⟩, ⟨a0, a1, a2⟩, b0, b1, b2⟩ := hcell.out W hB
   clear hv
   simp only [e2]
   go_wp2
   exact ⟨.int .i64 (q.t : Int), by simp [upd, e2], Below.refl _ _, rfl⟩
  case refine_5 =>
   intro vs lo hi W hB hv
   have e1 : vs 1 = .int .i64 (p.t : Int) := ((hv ⟨1, .data⟩ (by simp) rfl).1)
   have e3 : vs 3 = .int .i64 (q.t : Int) := ((hv ⟨3, .data⟩ (by simp) rfl).1)
   clear hv
   simp only [e1, e3]
   go_wp2
   exact ⟨.bool false, by first | (rw [← e1, ← e3]; rfl) | (simp [upd, e1, e3]), Below.refl _ _, rfl⟩
  case refine_6 =>
   intro vs lo hi W hB hv
   have e4 : vs 4 = .bool false := ((hv ⟨4, .data⟩ (by simp) rfl).1)
   clear hv
   simp only [e4]
   go_wp2
   exact ⟨.bool false, by simp [upd, e4], Below.refl _ _, rfl⟩
  case refine_7 =>
   intro vs lo hi W hB hv
   have e5 : vs 5 = .bool false := ((hv ⟨5, .guard⟩ (by simp) rfl).1)
   clear hv
   simp only [e5]
   go_wp2
   exact ⟨undef, by first | (rw [← e5]; rfl) | (simp [upd, e5]), Below.refl _ _, rfl⟩
  case refine_8 =>
   intro vs lo hi W hB hv
   have e5 : vs 5 = .bool false := ((hv ⟨5, .guard⟩ (by simp) rfl).1)
   clear hv
   simp only [e5]
   go_wp2
   exact ⟨undef, by first | (rw [← e5]; rfl) | (simp [upd, e5]), Below.refl _ _, rfl⟩
  case refine_9 =>
   intro vs lo hi W hB hv
   have e5 : vs 5 = .bool false := ((hv ⟨5, .guard⟩ (by simp) rfl).1)
   clear hv
   simp only [e5]
   go_wp2
   exact ⟨undef, by first | (rw [← e5]; rfl) | (simp [upd, e5]), Below.refl _ _, rfl⟩
  case refine_10 =>
   intro vs lo hi W hB hv
   have e5 : vs 5 = .bool false := ((hv ⟨5, .guard⟩ (by simp) rfl).1)
   clear hv
   simp only [e5]
   go_wp2
   exact ⟨undef, by first | (rw [← e5]; rfl) | (simp [upd, e5]), Below.refl _ _, rfl⟩
  case refine_11 =>
   intro vs lo hi W hB hv
   have e5 : vs 5 = .bool false := ((hv ⟨5, .guard⟩ (by simp) rfl).1)
   clear hv
   simp only [e5]
   go_wp2
   exact ⟨undef, by first | (rw [← e5]; rfl) | (simp [upd, e5]), Below.refl _ _, rfl⟩
  case refine_12 =>
   intro vs lo hi W hB hv
   have e5 : vs 5 = .bool false := ((hv ⟨5, .chain⟩ (by simp) rfl).1)
   clear hv
   simp only [e5]
   go_wp2
   exact ⟨undef, by first | (rw [← e5]; rfl) | (simp [upd, e5]), Below.refl _ _, rfl⟩
  case refine_13 =>
   intro vs lo hi W hB hv
   have e5 : vs 5 = .bool false := ((hv ⟨5, .data⟩ (by simp) rfl).1)
   have e11 : vs 11 = undef := ((hv ⟨11, .data⟩ (by simp) rfl).1)
   clear hv
   simp only [e5, e11]
   go_wp2
   exact ⟨.bool false, by simp [upd, e5, e11], Below.refl _ _, rfl⟩
  case refine_14 =>
   intro vs lo hi W hB hv
   have e12 : vs 12 = .bool false := ((hv ⟨12, .data⟩ (by simp) rfl).1)
   clear hv
   simp only [e12]
   go_wp2
   exact ⟨.bool false, by simp [upd, e12], Below.refl _ _, rfl⟩
  case refine_15 =>
   intro vs lo hi W hB hv
   have e13 : vs 13 = .bool false := ((hv ⟨13, .guard⟩ (by simp) rfl).1)
   clear hv
   simp only [e13]
   go_wp2
   exact ⟨undef, by first | (rw [← e13]; rfl) | (simp [upd, e13]), Below.refl _ _, rfl⟩
  case refine_16 =>
   intro vs lo hi W hB hv
   have e13 : vs 13 = .bool false := ((hv ⟨13, .guard⟩ (by simp) rfl).1)
   clear hv
   simp only [e13]
   go_wp2
   exact ⟨undef, by first | (rw [← e13]; rfl) | (simp [upd, e13]), Below.refl _ _, rfl⟩
  case refine_17 =>
   intro vs lo hi W hB hv
   have e13 : vs 13 = .bool false := ((hv ⟨13, .guard⟩ (by simp) rfl).1)
   clear hv
   simp only [e13]
   go_wp2
   exact ⟨undef, by first | (rw [← e13]; rfl) | (simp [upd, e13]), Below.refl _ _, rfl⟩
  case refine_18 =>
   intro vs lo hi W hB hv
   have e13 : vs 13 = .bool false := ((hv ⟨13, .guard⟩ (by simp) rfl).1)
   clear hv
   simp only [e13]
   go_wp2
   exact ⟨undef, by first | (rw [← e13]; rfl) | (simp [upd, e13]), Below.refl _ _, rfl⟩
  case refine_19 =>
   intro vs lo hi W hB hv
   have e13 : vs 13 = .bool false := ((hv ⟨13, .guard⟩ (by simp) rfl).1)
   clear hv
   simp only [e13]
   go_wp2
   exact ⟨undef, by first | (rw [← e13]; rfl) | (simp [upd, e13]), Below.refl _ _, rfl⟩
  case refine_20 =>
   intro vs lo hi W hB hv
   have e13 : vs 13 = .bool false := ((hv ⟨13, .chain⟩ (by simp) rfl).1)
   clear hv
   simp only [e13]
   go_wp2
   exact ⟨undef, by first | (rw [← e13]; rfl) | (simp [upd, e13]), Below.refl _ _, rfl⟩
  case refine_21 =>
   intro vs lo hi W hB hv
   have e13 : vs 13 = .bool false := ((hv ⟨13, .data⟩ (by simp) rfl).1)
   have e19 : vs 19 = undef := ((hv ⟨19, .data⟩ (by simp) rfl).1)
   clear hv
   simp only [e13, e19]
   go_wp2
   exact ⟨.bool false, by simp [upd, e13, e19], Below.refl _ _, rfl⟩
  case refine_22 =>
   intro vs lo hi W hB hv
   have e20 : vs 20 = .bool false := ((hv ⟨20, .data⟩ (by simp) rfl).1)
   clear hv
   simp only [e20]
   go_wp2
   exact ⟨.bool false, by simp [upd, e20], Below.refl _ _, rfl⟩
  case refine_23 =>
   intro vs lo hi W hB hv
   have e21 : vs 21 = .bool false := ((hv ⟨21, .guard⟩ (by simp) rfl).1)
   clear hv
   simp only [e21]
   go_wp2
   exact ⟨undef, by first | (rw [← e21]; rfl) | (simp [upd, e21]), Below.refl _ _, rfl⟩
  case refine_24 =>
   intro vs lo hi W hB hv
   have e21 : vs 21 = .bool false := ((hv ⟨21, .guard⟩ (by simp) rfl).1)
   clear hv
   simp only [e21]
   go_wp2
   exact ⟨undef, by first | (rw [← e21]; rfl) | (simp [upd, e21]), Below.refl _ _, rfl⟩
  case refine_25 =>
   intro vs lo hi W hB hv
   have e21 : vs 21 = .bool false := ((hv ⟨21, .guard⟩ (by simp) rfl).1)
   clear hv
   simp only [e21]
   go_wp2
   exact ⟨undef, by first | (rw [← e21]; rfl) | (simp [upd, e21]), Below.refl _ _, rfl⟩
  case refine_26 =>
   intro vs lo hi W hB hv
   have e21 : vs 21 = .bool false := ((hv ⟨21, .guard⟩ (by simp) rfl).1)
   clear hv
   simp only [e21]
   go_wp2
   exact ⟨undef, by first | (rw [← e21]; rfl) | (simp [upd, e21]), Below.refl _ _, rfl⟩
  case refine_27 =>
   intro vs lo hi W hB hv
   have e21 : vs 21 = .bool false := ((hv ⟨21, .guard⟩ (by simp) rfl).1)
   clear hv
   simp only [e21]
   go_wp2
   exact ⟨undef, by first | (rw [← e21]; rfl) | (simp [upd, e21]), Below.refl _ _, rfl⟩
  case refine_28 =>
   intro vs lo hi W hB hv
   have e21 : vs 21 = .bool false := ((hv ⟨21, .data⟩ (by simp) rfl).1)
   have e26 : vs 26 = undef := ((hv ⟨26, .data⟩ (by simp) rfl).1)
   clear hv
   simp only [e21, e26]
   go_wp2
   exact ⟨.bool false, by simp [upd, e21, e26], Below.refl _ _, rfl⟩
  case refine_29 =>
   intro vs lo hi W hB hv
   have e27 : vs 27 = .bool false := ((hv ⟨27, .data⟩ (by simp) rfl).1)
   clear hv
   simp only [e27]
   go_wp2
   exact ⟨.bool false, by simp [upd, e27], Below.refl _ _, rfl⟩
  case refine_30 =>
   intro vs lo hi W hB hv
   have e28 : vs 28 = .bool false := ((hv ⟨28, .guard⟩ (by simp) rfl).1)
   clear hv
   simp only [e28]
   go_wp2
   exact ⟨undef, by first | (rw [← e28]; rfl) | (simp [upd, e28]), Below.refl _ _, rfl⟩
  case refine_31 =>
   intro vs lo hi W hB hv
   have e28 : vs 28 = .bool false := ((hv ⟨28, .chain⟩ (by simp) rfl).1)
   clear hv
   simp only [e28]
   go_wp2
   exact ⟨undef, by first | (rw [← e28]; rfl) | (simp [upd, e28]), Below.refl _ _, rfl⟩
  case refine_32 =>
   intro vs lo hi W hB hv
   have e28 : vs 28 = .bool false := ((hv ⟨28, .guard⟩ (by simp) rfl).1)
   clear hv
   simp only [e28]
   go_wp2
   exact ⟨undef, by first | (rw [← e28]; rfl) | (simp [upd, e28]), Below.refl _ _, rfl⟩
  case refine_33 =>
   intro vs lo hi W hB hv
   have e31 : vs 31 = undef := ((hv ⟨31, .guard⟩ (by simp) rfl).1)
   clear hv
   simp only [e31]
   go_wp2
   exact ⟨undef, by simp [upd, e31], Below.refl _ _, rfl⟩
  case refine_34 =>
   intro vs lo hi W hB hv
   have e31 : vs 31 = undef := ((hv ⟨31, .chain⟩ (by simp) rfl).1)
   clear hv
   simp only [e31]
   go_wp2
   exact ⟨undef, by simp [upd, e31], Below.refl _ _, rfl⟩
  case refine_35 =>
   intro vs lo hi W hB hv
   have e28 : vs 28 = .bool false := ((hv ⟨28, .guard⟩ (by simp) rfl).1)
   clear hv
   simp only [e28]
   go_wp2
   exact ⟨undef, by first | (rw [← e28]; rfl) | (simp [upd, e28]), Below.refl _ _, rfl⟩
  case refine_36 =>
   intro vs lo hi W hB hv
   have e28 : vs 28 = .bool false := ((hv ⟨28, .data⟩ (by simp) rfl).1)
   have e34 : vs 34 = undef := ((hv ⟨34, .data⟩ (by simp) rfl).1)
   clear hv
   simp only [e28, e34]
   go_wp2
   exact ⟨.bool false, by simp [upd, e28, e34], Below.refl _ _, rfl⟩
  case refine_37 =>
   intro vs lo hi W hB hv
   have e35 : vs 35 = .bool false := ((hv ⟨35, .data⟩ (by simp) rfl).1)
   clear hv
   simp only [e35]
   go_wp2
   exact ⟨.bool false, by simp [upd, e35], Below.refl _ _, rfl⟩
  case refine_38 =>
   intro vs lo hi W hB hv _ _
   have e0 : vs 0 = .pointer (some ⟨w.heap.size, 0, none⟩) := (hv 0 (by simp))
   have e1 : vs 1 = .int .i64 (p.t : Int) := (hv 1 (by simp))
   have e2 : vs 2 = .pointer (some ⟨w.heap.size + 1, 0, none⟩) := (hv 2 (by simp))
   have e3 : vs 3 = .int .i64 (q.t : Int) := (hv 3 (by simp))
   have e4 : vs 4 = .bool false := (hv 4 (by simp))
   have e5 : vs 5 = .bool false := (hv 5 (by simp))
   have e12 : vs 12 = .bool false := (hv 12 (by simp))
   have e13 : vs 13 = .bool false := (hv 13 (by simp))
   have e20 : vs 20 = .bool false := (hv 20 (by simp))
   have e21 : vs 21 = .bool false := (hv 21 (by simp))
   have e27 : vs 27 = .bool false := (hv 27 (by simp))
   have e28 : vs 28 = .bool false := (hv 28 (by simp))
   have e35 : vs 35 = .bool false := (hv 35 (by simp))
   have e36 : vs 36 = .bool false := (hv 36 (by simp))
   clear hv
   simp only [e0, e1, e2, e3, e4, e5, e12, e13, e20, e21, e27, e28, e35, e36]
   have hfin : Hid (Below w.heap.size w W) := below_on hBwH.out hB
   clear hB e0 e1 e2 e3 e4 e5 e12 e13 e20 e21 e27 e28 e35 e36
   go_wp2
   go_ret
   exact ⟨by rw [hRv.out]; rfl, hfin.out⟩
end Go.Proofs.YtknbchheoloaoaaGreat
