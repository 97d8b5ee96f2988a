/- The program's marker: an op that may be is done. -/
import Derived.Test.YtchcdlelaklnnaaKmM
import Derived.Test.YtchcdlelaklnnaaKmK
namespace Go.Proofs.Ytchcdlelaklnnaa
set_option linter.unusedVariables false
open Go.ChangeShapes Go.WideShapes Go.ChangeAt Go.RowKit

/-- A chain of values, the world but drawn from or grown. -/
def chR (W0 : World) (cs : List Nat) (L : List Value) : Nat → (Nat → Value) → World → Prop := fun k vs W => Below W0.heap.size W0 W ∧ ∀ j (h : j < cs.length), j < k → vs cs[j] = L.getD j undef
theorem chR_below {W0 : World} {cs : List Nat} {L : List Value} {k : Nat} {vs : Nat → Value} {W : World} (h : chR W0 cs L k vs W) : Below W0.heap.size W0 W := h.1
theorem chR_loc (W0 : World) (cs : List Nat) (L : List Value) : ∀ k vs i v w, i ∉ cs → chR W0 cs L k vs w → chR W0 cs L k (upd vs i v) w := fun k vs i v w hi h => ⟨h.1, fun j hj hk => by
  rw [upd_other _ _ (fun e => hi (by rw [← e]; exact List.getElem_mem hj))]
  exact h.2 j hj hk⟩
theorem chR_next {W0 W W' : World} {cs : List Nat} {L : List Value} {k c : Nat} {vs : Nat → Value} {v : Value} (h : chR W0 cs L k vs W) (hb : Below W0.heap.size W0 W') (hn : cs.Nodup) (hc : cs[k]? = some c) (hv : L.getD k undef = v) : chR W0 cs L (k + 1) (upd vs c v) W' := by
  obtain ⟨hk, e⟩ := List.getElem?_eq_some_iff.1 hc
  refine ⟨hb, fun j hj hjk => ?_⟩
  by_cases q : j = k
  · subst q
    rw [e, upd_same, hv]
  · rw [upd_other]
    · exact h.2 j hj (by omega)
    · intro q2
      rw [← e] at q2
      rcases Nat.lt_or_gt_of_ne q with r | r
      · exact (List.pairwise_iff_getElem.1 hn) j k hj hk r q2
      · exact (List.pairwise_iff_getElem.1 hn) k j hk hj r q2.symm
/-- The root becomes the new object. -/
def crR (G : Nat → Prop) (M : Nat) (s : StM) (k : Nat) (tv : Value) (W0 : World) : Nat → (Nat → Value) → World → Prop
  | 0, _, W => Below W0.heap.size W0 W
  | _, vs, W => Keep G W0 W ∧ vs 6 = .int .i64 ((s.obs.length : Int) + 1) ∧ ∃ ps fs ov, ImW W G M (createM s k) ps fs ov tv
theorem crR_loc (G : Nat → Prop) (M : Nat) (s : StM) (k : Nat) (tv : Value) (W0 : World) : ∀ n vs i v w, i ∉ [6] → crR G M s k tv W0 n vs w → crR G M s k tv W0 n (upd vs i v) w := by
  intro n vs i v w hi h
  have h6 : upd vs i v 6 = vs 6 := upd_other _ _ (fun e => hi (by simp [← e]))
  match n, h with
  | 0, h => exact h
  | _ + 1, h => show _ ∧ upd vs i v 6 = _ ∧ _; rw [h6]; exact h
theorem crR_keep {G : Nat → Prop} {M : Nat} {s : StM} {k : Nat} {tv : Value} {W0 : World} (hG : ∀ j, G j → j < W0.heap.size) : ∀ {n : Nat} {vs : Nat → Value} {W : World}, crR G M s k tv W0 n vs W → Keep G W0 W
  | 0, _, _, h => Keep.of h hG
  | _ + 1, _, _, h => h.1
theorem ImW.nilF {w : World} {F G : Nat → Prop} {M : Nat} {s : StM} {ps fs : List Nat} {ov tv : Value} (h : ImW w G M s ps fs ov tv) (hG : ∀ k, F k → G k) : ImW w (fun k => F k ∨ (Value.slice none 0 0).ownBlock = some k) M s ps fs ov tv := h.unbox fun k q => by
  rcases q with q | q
  · exact hG k q
  · simp [Value.ownBlock] at q
set_option maxRecDepth 100000 in
set_option maxHeartbeats 4000000 in
theorem act1_calls (w : World) (F : Nat → Prop) (M : Nat) (s : StM) (ps fs : List Nat) (ov tv : Value) (a b : Nat) (c : Int) (h : ImW w F M s ps fs ov tv) (hgd : GoodM s) (ha : a < 8) (hb : b ≤ 6) (hlt : s.obs.length < 400) :
    Calls Try.prog 28 #[.pointer (some ⟨M, 0, none⟩), .agg #[.int .i64 1, .int .i64 a, .int .i64 b, .int .i64 c]] w fun e w' => ∃ gv, e = .returned gv ∧ OutAt w.heap.size w' gv [] ∧ (∃ ps' fs' ov' tv', ImW w' (fun k => F k ∨ gv.ownBlock = some k) M (makeM s a b) ps' fs' ov' tv') ∧ Keep F w w' := by
  have hl : s.obs.length ≤ 400 := hgd.len
  have hI : Hid (InvM s) := hgd.inv
  have h6 : Hid (∀ o ∈ s.obs, o.flds.length ≤ 6) := hgd.fl
  have hS0 : Hid (ImW (w.alloc (.cells #[.int .i64 1, .int .i64 a, .int .i64 b, .int .i64 c] 27)) (fun k => F k ∨ k = w.heap.size) M s ps fs ov tv) := h.boxed _
  have hK0 : Hid (Keep F w (w.alloc (.cells #[.int .i64 1, .int .i64 a, .int .i64 b, .int .i64 c] 27))) := Keep.of (below_1 _ _) h.lo.2
  have hbx0 : Hid ((w.alloc (.cells #[.int .i64 1, .int .i64 a, .int .i64 b, .int .i64 c] 27)).heap[w.heap.size]? = some (.cells #[.int .i64 1, .int .i64 a, .int .i64 b, .int .i64 c] 27 (0, 0))) := heap_alloc_new _ _
  obtain ⟨T, hT⟩ : ∃ T, T = (makeM s a b) := ⟨_, rfl⟩
  rw [← hT]
  have hTH : Hid (T = (makeM s a b)) := hT
  clear h hgd hT
  go_enter Try.func28, Try.ntmps28
  go_upto_region 1 with fail
  obtain ⟨bx, hbx⟩ : ∃ bx, bx = w.heap.size := ⟨_, rfl⟩
  rw [← hbx] at hS0 hbx0 ⊢
  clear hbx
  generalize w.alloc (.cells #[.int .i64 1, .int .i64 a, .int .i64 b, .int .i64 c] 27) = W0 at hS0 hK0 hbx0 ⊢
  obtain ⟨G, hG⟩ : ∃ G : Nat → Prop, G = fun k => F k ∨ k = bx := ⟨_, rfl⟩
  have hGH : Hid ((∀ k, F k → G k) ∧ G bx) := by rw [hG]; exact ⟨fun k q => .inl q, .inr rfl⟩
  rw [← hG] at hS0
  clear hG
  have x0 : W0.cell? ⟨bx, 0, none⟩ = some (.int .i64 1) := cell_of hbx0.out rfl
  have x1 : W0.cell? ⟨bx, 1, none⟩ = some (.int .i64 a) := cell_of hbx0.out rfl
  have x2 : W0.cell? ⟨bx, 2, none⟩ = some (.int .i64 b) := cell_of hbx0.out rfl
  have x3 : W0.cell? ⟨bx, 3, none⟩ = some (.int .i64 c) := cell_of hbx0.out rfl
  have hcells : Hid (∀ W, Keep G W0 W → W.cell? ⟨bx, 1, none⟩ = some (.int .i64 a) ∧ W.cell? ⟨bx, 2, none⟩ = some (.int .i64 b)) := fun W hK => ⟨cell_of ((hK.block bx hGH.out.2).trans hbx0.out) rfl, cell_of ((hK.block bx hGH.out.2).trans hbx0.out) rfl⟩
  have ha8 : (a : Int) < 8 := by omega
  go_wp2_with fail
  clear x0 x1 x2 x3
  refine wp_region_chain (by kernel_rfl) (fun vs => { tmps := #[.pointer (some ⟨M, 0, none⟩), .agg #[.int .i64 1, .int .i64 a, .int .i64 b, .int .i64 c], undef, .pointer (some ⟨bx, 0, none⟩), .slice none 0 0, .pointer (some ⟨bx, 0, none⟩), .int .i64 1, .bool true, .bool true, vs 0, vs 1, vs 2, vs 3, vs 4, vs 5, vs 6, vs 7, vs 8, vs 9, undef, undef, undef, undef, undef, undef, undef, undef, undef, undef, undef, undef, undef, undef, undef, undef, undef, undef, undef, undef, undef, undef, undef, undef, undef, undef, undef, undef, undef, undef, undef, undef, undef, undef, undef, undef, undef, undef, undef, undef, undef, undef, undef, undef, undef, undef, undef, undef, undef, undef, undef, undef, undef, undef, undef, undef, undef, undef, undef, undef, undef, undef, undef, undef, undef, undef, undef, undef, undef, undef, undef, undef, undef], defers := [] }) [6] (lv1 [.pointer (some ⟨M, 0, none⟩), .pointer (some ⟨bx, 1, none⟩), .int .i64 a, .pointer (some ⟨M, 0, none⟩), .pointer (some ⟨bx, 2, none⟩), .int .i64 b, .int .i64 ((s.obs.length : Int) + 1), .pointer (some ⟨M, 0, none⟩), .pointer (some ⟨M, 2, none⟩), .pointer (some ⟨M, 2 + a, none⟩)]) (crR G M s b tv W0) (fun i => undef) rfl (by kernel_rfl) ?_ (crR_loc _ _ _ _ _ _) (allAt_all ⟨?_, ?_, ?_, ?_, ?_, ?_, ?_, ?_, ?_, ?_, ?_, trivial⟩) ?_ ?_
  case refine_1 => exact Below.drew (Below.refl _ _)
  case refine_2 =>
    intro _ _ kk vs W hR hv
    have hB := crR_keep hS0.out.lo.2 hR
    clear hv hR
    go_wp2
    exact PurePost.mk' (.pointer (some ⟨M, 0, none⟩)) (by rfl) rfl
  case refine_3 =>
    intro _ _ kk vs W hR hv
    have hB := crR_keep hS0.out.lo.2 hR
    clear hv hR
    go_wp2
    exact PurePost.mk' (.pointer (some ⟨bx, 1, none⟩)) (by rfl) rfl
  case refine_4 =>
    intro _ _ kk vs W hR hv
    have hB := crR_keep hS0.out.lo.2 hR
    have e1 : vs 1 = .pointer (some ⟨bx, 1, none⟩) := hv ⟨1, .data⟩ (by simp) rfl (by decide)
    obtain ⟨q1, q2⟩ := hcells.out W hB
    clear hv hR
    simp only [e1]
    go_wp2
    exact PurePost.mk' (.int .i64 a) (by first | (rw [← e1]; rfl) | (simp [upd, e1])) rfl
  case refine_5 =>
    intro _ _ kk vs W hR hv
    have hB := crR_keep hS0.out.lo.2 hR
    clear hv hR
    go_wp2
    exact PurePost.mk' (.pointer (some ⟨M, 0, none⟩)) (by rfl) rfl
  case refine_6 =>
    intro _ _ kk vs W hR hv
    have hB := crR_keep hS0.out.lo.2 hR
    clear hv hR
    go_wp2
    exact PurePost.mk' (.pointer (some ⟨bx, 2, none⟩)) (by rfl) rfl
  case refine_7 =>
    intro _ _ kk vs W hR hv
    have hB := crR_keep hS0.out.lo.2 hR
    have e4 : vs 4 = .pointer (some ⟨bx, 2, none⟩) := hv ⟨4, .data⟩ (by simp) rfl (by decide)
    obtain ⟨q1, q2⟩ := hcells.out W hB
    clear hv hR
    simp only [e4]
    go_wp2
    exact PurePost.mk' (.int .i64 b) (by first | (rw [← e4]; rfl) | (simp [upd, e4])) rfl
  case refine_8 => exact fun h => absurd (by decide) h
  case refine_9 =>
    intro _ _ kk vs W hR hv
    have hB := crR_keep hS0.out.lo.2 hR
    have e0 : vs 0 = .pointer (some ⟨M, 0, none⟩) := hv ⟨0, .data⟩ (by simp) rfl (by decide)
    clear hv hR
    simp only [e0]
    go_wp2
    exact PurePost.mk' (.pointer (some ⟨M, 0, none⟩)) (by show _ = ({ tmps := #[.pointer (some ⟨M, 0, none⟩), .agg #[.int .i64 1, .int .i64 a, .int .i64 b, .int .i64 c], undef, .pointer (some ⟨bx, 0, none⟩), .slice none 0 0, .pointer (some ⟨bx, 0, none⟩), .int .i64 1, .bool true, .bool true, vs 0, vs 1, vs 2, vs 3, vs 4, vs 5, vs 6, .pointer (some ⟨M, 0, none⟩), vs 8, vs 9, undef, undef, undef, undef, undef, undef, undef, undef, undef, undef, undef, undef, undef, undef, undef, undef, undef, undef, undef, undef, undef, undef, undef, undef, undef, undef, undef, undef, undef, undef, undef, undef, undef, undef, undef, undef, undef, undef, undef, undef, undef, undef, undef, undef, undef, undef, undef, undef, undef, undef, undef, undef, undef, undef, undef, undef, undef, undef, undef, undef, undef, undef, undef, undef, undef, undef, undef, undef, undef, undef, undef, undef, undef], defers := [] } : Act); rw [e0]) rfl
  case refine_10 =>
    intro _ _ kk vs W hR hv
    have hB := crR_keep hS0.out.lo.2 hR
    have e7 : vs 7 = .pointer (some ⟨M, 0, none⟩) := hv ⟨7, .data⟩ (by simp) rfl (by decide)
    clear hv hR
    simp only [e7]
    go_wp2
    exact PurePost.mk' (.pointer (some ⟨M, 2, none⟩)) (by show _ = ({ tmps := #[.pointer (some ⟨M, 0, none⟩), .agg #[.int .i64 1, .int .i64 a, .int .i64 b, .int .i64 c], undef, .pointer (some ⟨bx, 0, none⟩), .slice none 0 0, .pointer (some ⟨bx, 0, none⟩), .int .i64 1, .bool true, .bool true, vs 0, vs 1, vs 2, vs 3, vs 4, vs 5, vs 6, vs 7, .pointer (some ⟨M, 2, none⟩), vs 9, undef, undef, undef, undef, undef, undef, undef, undef, undef, undef, undef, undef, undef, undef, undef, undef, undef, undef, undef, undef, undef, undef, undef, undef, undef, undef, undef, undef, undef, undef, undef, undef, undef, undef, undef, undef, undef, undef, undef, undef, undef, undef, undef, undef, undef, undef, undef, undef, undef, undef, undef, undef, undef, undef, undef, undef, undef, undef, undef, undef, undef, undef, undef, undef, undef, undef, undef, undef, undef, undef, undef, undef, undef], defers := [] } : Act); rw [e7]) rfl
  case refine_11 =>
    intro _ _ kk vs W hR hv
    have hB := crR_keep hS0.out.lo.2 hR
    have e8 : vs 8 = .pointer (some ⟨M, 2, none⟩) := hv ⟨8, .data⟩ (by simp) rfl (by decide)
    have e2 : vs 2 = .int .i64 a := hv ⟨2, .data⟩ (by simp) rfl (by decide)
    clear hv hR
    simp only [e8, e2]
    go_wp2
    exact PurePost.mk' (.pointer (some ⟨M, 2 + a, none⟩)) (by first | (rw [← e8, ← e2]; rfl) | (simp [upd, e8, e2])) rfl
  case refine_12 => exact fun _ h => absurd h (by simp)
  case refine_13 =>
    intro jj q o hq ho vs W hR hv
    match jj, hq with
    | 0, hq =>
      obtain rfl : q = 6 := by simpa using hq.symm
      obtain rfl := Option.some.inj ho
      have e3 : vs 3 = .pointer (some ⟨M, 0, none⟩) := hv ⟨3, .data⟩ (by simp) rfl (by decide)
      have e5 : vs 5 = .int .i64 b := hv ⟨5, .data⟩ (by simp) rfl (by decide)
      have hB : Below W0.heap.size W0 W := hR
      clear hv hR
      simp only [e3, e5]
      go_wp2_with (go_at_call 51; refine (create_calls W G M s ps fs ov tv b (hS0.out.below hB) hI.out hlt hb).mono ?_; rintro e W2 ⟨rfl, hI2, hK2⟩)
      exact ChainPost.mk' (.int .i64 ((s.obs.length : Int) + 1)) (by first | (rw [← e3, ← e5]; rfl) | (simp [upd, e3, e5])) ⟨(Keep.of hB hS0.out.lo.2).trans hK2, by rw [upd_same], hI2⟩
    | jj + 1, hq => simp at hq
  case refine_14 =>
    intro o ho vs W hR hv
    obtain rfl := Option.some.inj ho
    clear ho
    have e0 : vs 0 = .pointer (some ⟨M, 0, none⟩) := hv 0 (by simp) (by decide)
    have e1 : vs 1 = .pointer (some ⟨bx, 1, none⟩) := hv 1 (by simp) (by decide)
    have e2 : vs 2 = .int .i64 a := hv 2 (by simp) (by decide)
    have e3 : vs 3 = .pointer (some ⟨M, 0, none⟩) := hv 3 (by simp) (by decide)
    have e4 : vs 4 = .pointer (some ⟨bx, 2, none⟩) := hv 4 (by simp) (by decide)
    have e5 : vs 5 = .int .i64 b := hv 5 (by simp) (by decide)
    have e7 : vs 7 = .pointer (some ⟨M, 0, none⟩) := hv 7 (by simp) (by decide)
    have e8 : vs 8 = .pointer (some ⟨M, 2, none⟩) := hv 8 (by simp) (by decide)
    have e9 : vs 9 = .pointer (some ⟨M, 2 + a, none⟩) := hv 9 (by simp) (by decide)
    obtain ⟨hK, e6, ps2, fs2, ov2, hI2⟩ := hR
    clear hv
    have hI2H : Hid _ := hI2
    have hKH : Hid _ := hK
    have kz : ∃ u, W.cell? ⟨M, 2 + a, none⟩ = some u := ⟨_, hI2.mode.2.2.2.2.1 a ha⟩
    obtain ⟨u, kz⟩ := kz
    have kf : W.frozen? ⟨M, 2 + a, none⟩ = false := hI2.mode.2.2.2.2.2 (2 + a)
    clear hI2 hK
    simp only [e0, e1, e2, e3, e4, e5, e6, e7, e8, e9]
    clear e0 e1 e2 e3 e4 e5 e6 e7 e8 e9
    go_wp2
    go_ret
    have hr := hI2H.out.setRoot a ha ((s.obs.length : Int) + 1)
    rw [createM_make] at hr
    exact ⟨_, rfl, out_nil _ _, ⟨_, _, _, _, by rw [hTH.out]; exact hr.1.nilF hGH.out.1⟩, hK0.out.trans ((hKH.out.trans hr.2).mono hGH.out.1)⟩
set_option maxRecDepth 100000 in
set_option maxHeartbeats 4000000 in
theorem act2_calls (w : World) (F : Nat → Prop) (M : Nat) (s : StM) (ps fs : List Nat) (ov tv : Value) (a b : Nat) (c : Int) (h : ImW w F M s ps fs ov tv) (hgd : GoodM s) (ha : a < 8) (hb : b < 8) (hcode : fcodeM s (rootM s b) c = 0) :
    Calls Try.prog 28 #[.pointer (some ⟨M, 0, none⟩), .agg #[.int .i64 2, .int .i64 a, .int .i64 b, .int .i64 c]] w fun e w' => ∃ gv, e = .returned gv ∧ OutAt w.heap.size w' gv [] ∧ (∃ ps' fs' ov' tv', ImW w' (fun k => F k ∨ gv.ownBlock = some k) M (setR s a (fieldM s (rootM s b) c)) ps' fs' ov' tv') ∧ Keep F w w' := by
  obtain ⟨o, hg, hc0, hcl⟩ := fcodeM_ok hcode
  obtain ⟨ci, rfl⟩ : ∃ ci : Nat, c = ci := ⟨c.toNat, by omega⟩
  have hl : s.obs.length ≤ 400 := hgd.len
  have hI : Hid (InvM s) := hgd.inv
  have h6 : Hid (∀ o ∈ s.obs, o.flds.length ≤ 6) := hgd.fl
  have hS0 : Hid (ImW (w.alloc (.cells #[.int .i64 2, .int .i64 a, .int .i64 b, .int .i64 ci] 27)) (fun k => F k ∨ k = w.heap.size) M s ps fs ov tv) := h.boxed _
  have hK0 : Hid (Keep F w (w.alloc (.cells #[.int .i64 2, .int .i64 a, .int .i64 b, .int .i64 ci] 27))) := Keep.of (below_1 _ _) h.lo.2
  have hbx0 : Hid ((w.alloc (.cells #[.int .i64 2, .int .i64 a, .int .i64 b, .int .i64 ci] 27)).heap[w.heap.size]? = some (.cells #[.int .i64 2, .int .i64 a, .int .i64 b, .int .i64 ci] 27 (0, 0))) := heap_alloc_new _ _
  obtain ⟨T, hT⟩ : ∃ T, T = (setR s a (fieldM s (rootM s b) ci)) := ⟨_, rfl⟩
  rw [← hT]
  have hTH : Hid (T = (setR s a (fieldM s (rootM s b) ci))) := hT
  clear h hgd hT
  go_enter Try.func28, Try.ntmps28
  go_upto_region 1 with fail
  obtain ⟨bx, hbx⟩ : ∃ bx, bx = w.heap.size := ⟨_, rfl⟩
  rw [← hbx] at hS0 hbx0 ⊢
  clear hbx
  generalize w.alloc (.cells #[.int .i64 2, .int .i64 a, .int .i64 b, .int .i64 ci] 27) = W0 at hS0 hK0 hbx0 ⊢
  obtain ⟨G, hG⟩ : ∃ G : Nat → Prop, G = fun k => F k ∨ k = bx := ⟨_, rfl⟩
  have hGH : Hid ((∀ k, F k → G k) ∧ G bx) := by rw [hG]; exact ⟨fun k q => .inl q, .inr rfl⟩
  rw [← hG] at hS0
  clear hG
  have x0 : W0.cell? ⟨bx, 0, none⟩ = some (.int .i64 2) := cell_of hbx0.out rfl
  have x1 : W0.cell? ⟨bx, 1, none⟩ = some (.int .i64 a) := cell_of hbx0.out rfl
  have x2 : W0.cell? ⟨bx, 2, none⟩ = some (.int .i64 b) := cell_of hbx0.out rfl
  have x3 : W0.cell? ⟨bx, 3, none⟩ = some (.int .i64 ci) := cell_of hbx0.out rfl
  have hob := hS0.out.ob.get hg
  have hy : fieldM s (rootM s b) ci = o.flds[ci]'(by omega) := fieldM_nat hg (by omega)
  have ho6 : (o.flds.length : Int) ≤ 6 := by have := h6.out o (getM_mem hg); omega
  obtain ⟨y, hyd⟩ : ∃ y, y = fieldM s (rootM s b) ci := ⟨_, rfl⟩
  rw [← hyd] at hy
  have hydH : Hid _ := hyd
  obtain ⟨pp, hpp⟩ : ∃ pp, pp = ps.getD ((rootM s b).toNat - 1) 0 := ⟨_, rfl⟩
  obtain ⟨ff, hff⟩ : ∃ ff, ff = fs.getD ((rootM s b).toNat - 1) 0 := ⟨_, rfl⟩
  rw [← hpp, ← hff] at hob
  have hheld : Hid (∀ W, Below W0.heap.size W0 W → Calls Try.prog 52 #[.pointer (some ⟨M, 0, none⟩), .int .i64 b] W fun e w' => e = .returned (.pointer (some ⟨pp, 0, none⟩)) ∧ ∃ n, w' = W.drewN n) := fun W hB => by
    rw [hpp]
    exact (held_calls W G M s ps fs ov tv b (hS0.out.below hB) hI.out hl hb).1 o hg
  have hcells : Hid (∀ W, Below W0.heap.size W0 W → W.cell? ⟨bx, 1, none⟩ = some (.int .i64 a) ∧ W.cell? ⟨bx, 2, none⟩ = some (.int .i64 b) ∧ W.cell? ⟨bx, 3, none⟩ = some (.int .i64 ci) ∧ W.cell? ⟨pp, 1, none⟩ = some (.slice (some ⟨ff, 0, none⟩) o.flds.length o.flds.length) ∧ W.cell? ⟨ff, ci, none⟩ = some (.int .i64 y)) := fun W hB => ⟨cellB hB (lt_of hbx0.out) x1, cellB hB (lt_of hbx0.out) x2, cellB hB (lt_of hbx0.out) x3, cellB hB (lt_of hob.blk) (cell_of hob.blk rfl), cellB hB (lt_of hob.row) (by rw [hy]; exact cell_of hob.row (intsV_cell (by omega)))⟩
  have ha8 : (a : Int) < 8 := by omega
  have hb8 : (b : Int) < 8 := by omega
  clear hob hpp hff hy hyd hg hcode
  go_wp2_with fail
  clear x0 x1 x2 x3
  refine wp_region_chain (by kernel_rfl) (fun vs => { tmps := #[.pointer (some ⟨M, 0, none⟩), .agg #[.int .i64 2, .int .i64 a, .int .i64 b, .int .i64 ci], undef, .pointer (some ⟨bx, 0, none⟩), .slice none 0 0, .pointer (some ⟨bx, 0, none⟩), .int .i64 2, .bool false, .bool false, undef, undef, undef, undef, undef, undef, undef, undef, undef, undef, .bool true, .bool true, vs 0, vs 1, vs 2, vs 3, vs 4, vs 5, vs 6, vs 7, vs 8, vs 9, vs 10, vs 11, vs 12, vs 13, vs 14, vs 15, vs 16, undef, undef, undef, undef, undef, undef, undef, undef, undef, undef, undef, undef, undef, undef, undef, undef, undef, undef, undef, undef, undef, undef, undef, undef, undef, undef, undef, undef, undef, undef, undef, undef, undef, undef, undef, undef, undef, undef, undef, undef, undef, undef, undef, undef, undef, undef, undef, undef, undef, undef, undef, undef, undef, undef], defers := [] }) [6, 7, 8, 9, 12, 13] (lv1 [.pointer (some ⟨M, 0, none⟩), .pointer (some ⟨bx, 1, none⟩), .int .i64 a, .pointer (some ⟨M, 0, none⟩), .pointer (some ⟨bx, 2, none⟩), .int .i64 b, .pointer (some ⟨pp, 0, none⟩), .pointer (some ⟨pp, 0, none⟩), .pointer (some ⟨pp, 1, none⟩), .slice (some ⟨ff, 0, none⟩) o.flds.length o.flds.length, .pointer (some ⟨bx, 3, none⟩), .int .i64 ci, .pointer (some ⟨ff, ci, none⟩), .int .i64 y, .pointer (some ⟨M, 0, none⟩), .pointer (some ⟨M, 2, none⟩), .pointer (some ⟨M, 2 + a, none⟩)]) (chR W0 [6, 7, 8, 9, 12, 13] [.pointer (some ⟨pp, 0, none⟩), .pointer (some ⟨pp, 0, none⟩), .pointer (some ⟨pp, 1, none⟩), .slice (some ⟨ff, 0, none⟩) o.flds.length o.flds.length, .pointer (some ⟨ff, ci, none⟩), .int .i64 y]) (fun i => undef) rfl (by kernel_rfl) ?_ (chR_loc _ _ _) (allAt_all ⟨?_, ?_, ?_, ?_, ?_, ?_, ?_, ?_, ?_, ?_, ?_, ?_, ?_, ?_, ?_, ?_, ?_, ?_, trivial⟩) ?_ ?_
  case refine_1 => exact ⟨Below.drew (Below.refl _ _), fun j hj hk => absurd hk (by omega)⟩
  case refine_2 =>
    intro _ _ kk vs W hR hv
    have hB := chR_below hR
    clear hv hR
    go_wp2
    exact PurePost.mk' (.pointer (some ⟨M, 0, none⟩)) (by rfl) rfl
  case refine_3 =>
    intro _ _ kk vs W hR hv
    have hB := chR_below hR
    clear hv hR
    go_wp2
    exact PurePost.mk' (.pointer (some ⟨bx, 1, none⟩)) (by rfl) rfl
  case refine_4 =>
    intro _ _ kk vs W hR hv
    have hB := chR_below hR
    have e1 : vs 1 = .pointer (some ⟨bx, 1, none⟩) := hv ⟨1, .data⟩ (by simp) rfl (by decide)
    obtain ⟨q1, q2, q3, q4, q5⟩ := hcells.out W hB
    clear hv hR
    simp only [e1]
    go_wp2
    exact PurePost.mk' (.int .i64 a) (by first | (rw [← e1]; rfl) | (simp [upd, e1])) rfl
  case refine_5 =>
    intro _ _ kk vs W hR hv
    have hB := chR_below hR
    clear hv hR
    go_wp2
    exact PurePost.mk' (.pointer (some ⟨M, 0, none⟩)) (by rfl) rfl
  case refine_6 =>
    intro _ _ kk vs W hR hv
    have hB := chR_below hR
    clear hv hR
    go_wp2
    exact PurePost.mk' (.pointer (some ⟨bx, 2, none⟩)) (by rfl) rfl
  case refine_7 =>
    intro _ _ kk vs W hR hv
    have hB := chR_below hR
    have e4 : vs 4 = .pointer (some ⟨bx, 2, none⟩) := hv ⟨4, .data⟩ (by simp) rfl (by decide)
    obtain ⟨q1, q2, q3, q4, q5⟩ := hcells.out W hB
    clear hv hR
    simp only [e4]
    go_wp2
    exact PurePost.mk' (.int .i64 b) (by first | (rw [← e4]; rfl) | (simp [upd, e4])) rfl
  case refine_8 => exact fun h => absurd (by decide) h
  case refine_9 => exact fun h => absurd (by decide) h
  case refine_10 => exact fun h => absurd (by decide) h
  case refine_11 => exact fun h => absurd (by decide) h
  case refine_12 =>
    intro _ _ kk vs W hR hv
    have hB := chR_below hR
    clear hv hR
    go_wp2
    exact PurePost.mk' (.pointer (some ⟨bx, 3, none⟩)) (by rfl) rfl
  case refine_13 =>
    intro _ _ kk vs W hR hv
    have hB := chR_below hR
    have e10 : vs 10 = .pointer (some ⟨bx, 3, none⟩) := hv ⟨10, .data⟩ (by simp) rfl (by decide)
    obtain ⟨q1, q2, q3, q4, q5⟩ := hcells.out W hB
    clear hv hR
    simp only [e10]
    go_wp2
    exact PurePost.mk' (.int .i64 ci) (by first | (rw [← e10]; rfl) | (simp [upd, e10])) rfl
  case refine_14 => exact fun h => absurd (by decide) h
  case refine_15 => exact fun h => absurd (by decide) h
  case refine_16 =>
    intro _ _ kk vs W hR hv
    have hB := chR_below hR
    have e0 : vs 0 = .pointer (some ⟨M, 0, none⟩) := hv ⟨0, .data⟩ (by simp) rfl (by decide)
    clear hv hR
    simp only [e0]
    go_wp2
    exact PurePost.mk' (.pointer (some ⟨M, 0, none⟩)) (by show _ = ({ tmps := #[.pointer (some ⟨M, 0, none⟩), .agg #[.int .i64 2, .int .i64 a, .int .i64 b, .int .i64 ci], undef, .pointer (some ⟨bx, 0, none⟩), .slice none 0 0, .pointer (some ⟨bx, 0, none⟩), .int .i64 2, .bool false, .bool false, undef, undef, undef, undef, undef, undef, undef, undef, undef, undef, .bool true, .bool true, vs 0, vs 1, vs 2, vs 3, vs 4, vs 5, vs 6, vs 7, vs 8, vs 9, vs 10, vs 11, vs 12, vs 13, .pointer (some ⟨M, 0, none⟩), vs 15, vs 16, undef, undef, undef, undef, undef, undef, undef, undef, undef, undef, undef, undef, undef, undef, undef, undef, undef, undef, undef, undef, undef, undef, undef, undef, undef, undef, undef, undef, undef, undef, undef, undef, undef, undef, undef, undef, undef, undef, undef, undef, undef, undef, undef, undef, undef, undef, undef, undef, undef, undef, undef, undef, undef, undef], defers := [] } : Act); rw [e0]) rfl
  case refine_17 =>
    intro _ _ kk vs W hR hv
    have hB := chR_below hR
    have e14 : vs 14 = .pointer (some ⟨M, 0, none⟩) := hv ⟨14, .data⟩ (by simp) rfl (by decide)
    clear hv hR
    simp only [e14]
    go_wp2
    exact PurePost.mk' (.pointer (some ⟨M, 2, none⟩)) (by show _ = ({ tmps := #[.pointer (some ⟨M, 0, none⟩), .agg #[.int .i64 2, .int .i64 a, .int .i64 b, .int .i64 ci], undef, .pointer (some ⟨bx, 0, none⟩), .slice none 0 0, .pointer (some ⟨bx, 0, none⟩), .int .i64 2, .bool false, .bool false, undef, undef, undef, undef, undef, undef, undef, undef, undef, undef, .bool true, .bool true, vs 0, vs 1, vs 2, vs 3, vs 4, vs 5, vs 6, vs 7, vs 8, vs 9, vs 10, vs 11, vs 12, vs 13, vs 14, .pointer (some ⟨M, 2, none⟩), vs 16, undef, undef, undef, undef, undef, undef, undef, undef, undef, undef, undef, undef, undef, undef, undef, undef, undef, undef, undef, undef, undef, undef, undef, undef, undef, undef, undef, undef, undef, undef, undef, undef, undef, undef, undef, undef, undef, undef, undef, undef, undef, undef, undef, undef, undef, undef, undef, undef, undef, undef, undef, undef, undef, undef], defers := [] } : Act); rw [e14]) rfl
  case refine_18 =>
    intro _ _ kk vs W hR hv
    have hB := chR_below hR
    have e15 : vs 15 = .pointer (some ⟨M, 2, none⟩) := hv ⟨15, .data⟩ (by simp) rfl (by decide)
    have e2 : vs 2 = .int .i64 a := hv ⟨2, .data⟩ (by simp) rfl (by decide)
    clear hv hR
    simp only [e15, e2]
    go_wp2
    exact PurePost.mk' (.pointer (some ⟨M, 2 + a, none⟩)) (by first | (rw [← e15, ← e2]; rfl) | (simp [upd, e15, e2])) rfl
  case refine_19 => exact fun _ h => absurd h (by simp)
  case refine_20 =>
    intro jj q o hq ho vs W hR hv
    match jj, hq with
    | 0, hq =>
      obtain rfl : q = 6 := by simpa using hq.symm
      obtain rfl := Option.some.inj ho
      have hB := chR_below hR
      have e3 : vs 3 = .pointer (some ⟨M, 0, none⟩) := hv ⟨3, .data⟩ (by simp) rfl (by decide)
      have e5 : vs 5 = .int .i64 b := hv ⟨5, .data⟩ (by simp) rfl (by decide)
      have hRH : Hid _ := hR
      clear hv hR
      simp only [e3, e5]
      go_wp2_with (go_at_call 52; refine (show Calls _ _ _ _ _ from hheld.out W hB).mono ?_; rintro e W2 ⟨rfl, n2, hw2⟩)
      subst hw2
      exact ChainPost.mk' (.pointer (some ⟨pp, 0, none⟩)) (by show _ = ({ tmps := #[.pointer (some ⟨M, 0, none⟩), .agg #[.int .i64 2, .int .i64 a, .int .i64 b, .int .i64 ci], undef, .pointer (some ⟨bx, 0, none⟩), .slice none 0 0, .pointer (some ⟨bx, 0, none⟩), .int .i64 2, .bool false, .bool false, undef, undef, undef, undef, undef, undef, undef, undef, undef, undef, .bool true, .bool true, vs 0, vs 1, vs 2, vs 3, vs 4, vs 5, .pointer (some ⟨pp, 0, none⟩), vs 7, vs 8, vs 9, vs 10, vs 11, vs 12, vs 13, vs 14, vs 15, vs 16, undef, undef, undef, undef, undef, undef, undef, undef, undef, undef, undef, undef, undef, undef, undef, undef, undef, undef, undef, undef, undef, undef, undef, undef, undef, undef, undef, undef, undef, undef, undef, undef, undef, undef, undef, undef, undef, undef, undef, undef, undef, undef, undef, undef, undef, undef, undef, undef, undef, undef, undef, undef, undef, undef], defers := [] } : Act); rw [e3, e5]) (chR_next hRH.out (below_on2 hB (drewN_lt _ _)) (by decide) rfl rfl)
    | 1, hq =>
      obtain rfl : q = 7 := by simpa using hq.symm
      obtain rfl := Option.some.inj ho
      have hB := chR_below hR
      have e6 : vs 6 = .pointer (some ⟨pp, 0, none⟩) := hR.2 0 (by simp) (by omega)
      have hRH : Hid _ := hR
      clear hv hR
      simp only [e6]
      go_wp2
      exact ChainPost.mk' (.pointer (some ⟨pp, 0, none⟩)) (by show _ = ({ tmps := #[.pointer (some ⟨M, 0, none⟩), .agg #[.int .i64 2, .int .i64 a, .int .i64 b, .int .i64 ci], undef, .pointer (some ⟨bx, 0, none⟩), .slice none 0 0, .pointer (some ⟨bx, 0, none⟩), .int .i64 2, .bool false, .bool false, undef, undef, undef, undef, undef, undef, undef, undef, undef, undef, .bool true, .bool true, vs 0, vs 1, vs 2, vs 3, vs 4, vs 5, vs 6, .pointer (some ⟨pp, 0, none⟩), vs 8, vs 9, vs 10, vs 11, vs 12, vs 13, vs 14, vs 15, vs 16, undef, undef, undef, undef, undef, undef, undef, undef, undef, undef, undef, undef, undef, undef, undef, undef, undef, undef, undef, undef, undef, undef, undef, undef, undef, undef, undef, undef, undef, undef, undef, undef, undef, undef, undef, undef, undef, undef, undef, undef, undef, undef, undef, undef, undef, undef, undef, undef, undef, undef, undef, undef, undef, undef], defers := [] } : Act); rw [e6]) (chR_next hRH.out hB (by decide) rfl rfl)
    | 2, hq =>
      obtain rfl : q = 8 := by simpa using hq.symm
      obtain rfl := Option.some.inj ho
      have hB := chR_below hR
      have e7 : vs 7 = .pointer (some ⟨pp, 0, none⟩) := hR.2 1 (by simp) (by omega)
      have hRH : Hid _ := hR
      clear hv hR
      simp only [e7]
      go_wp2
      exact ChainPost.mk' (.pointer (some ⟨pp, 1, none⟩)) (by first | (rw [← e7]; rfl) | (simp [upd, e7])) (chR_next hRH.out hB (by decide) rfl rfl)
    | 3, hq =>
      obtain rfl : q = 9 := by simpa using hq.symm
      obtain rfl := Option.some.inj ho
      have hB := chR_below hR
      have e8 : vs 8 = .pointer (some ⟨pp, 1, none⟩) := hR.2 2 (by simp) (by omega)
      obtain ⟨q1, q2, q3, q4, q5⟩ := hcells.out W hB
      have hRH : Hid _ := hR
      clear hv hR
      simp only [e8]
      go_wp2
      exact ChainPost.mk' (.slice (some ⟨ff, 0, none⟩) o.flds.length o.flds.length) (by first | (rw [← e8]; rfl) | (simp [upd, e8])) (chR_next hRH.out hB (by decide) rfl rfl)
    | 4, hq =>
      obtain rfl : q = 12 := by simpa using hq.symm
      obtain rfl := Option.some.inj ho
      have hB := chR_below hR
      have e9 : vs 9 = .slice (some ⟨ff, 0, none⟩) o.flds.length o.flds.length := hR.2 3 (by simp) (by omega)
      have e11 : vs 11 = .int .i64 ci := hv ⟨11, .data⟩ (by simp) rfl (by decide)
      have hRH : Hid _ := hR
      clear hv hR
      simp only [e9, e11]
      go_wp2
      exact ChainPost.mk' (.pointer (some ⟨ff, ci, none⟩)) (by first | (rw [← e9, ← e11]; rfl) | (simp [upd, e9, e11])) (chR_next hRH.out hB (by decide) rfl rfl)
    | 5, hq =>
      obtain rfl : q = 13 := by simpa using hq.symm
      obtain rfl := Option.some.inj ho
      have hB := chR_below hR
      have e12 : vs 12 = .pointer (some ⟨ff, ci, none⟩) := hR.2 4 (by simp) (by omega)
      obtain ⟨q1, q2, q3, q4, q5⟩ := hcells.out W hB
      have hRH : Hid _ := hR
      clear hv hR
      simp only [e12]
      go_wp2
      exact ChainPost.mk' (.int .i64 y) (by first | (rw [← e12]; rfl) | (simp [upd, e12])) (chR_next hRH.out hB (by decide) rfl rfl)
    | jj + 6, hq => simp at hq
  case refine_21 =>
    intro o ho vs W hR hv
    obtain rfl := Option.some.inj ho
    clear ho
    have e0 : vs 0 = .pointer (some ⟨M, 0, none⟩) := hv 0 (by simp) (by decide)
    have e1 : vs 1 = .pointer (some ⟨bx, 1, none⟩) := hv 1 (by simp) (by decide)
    have e2 : vs 2 = .int .i64 a := hv 2 (by simp) (by decide)
    have e3 : vs 3 = .pointer (some ⟨M, 0, none⟩) := hv 3 (by simp) (by decide)
    have e4 : vs 4 = .pointer (some ⟨bx, 2, none⟩) := hv 4 (by simp) (by decide)
    have e5 : vs 5 = .int .i64 b := hv 5 (by simp) (by decide)
    have e10 : vs 10 = .pointer (some ⟨bx, 3, none⟩) := hv 10 (by simp) (by decide)
    have e11 : vs 11 = .int .i64 ci := hv 11 (by simp) (by decide)
    have e14 : vs 14 = .pointer (some ⟨M, 0, none⟩) := hv 14 (by simp) (by decide)
    have e15 : vs 15 = .pointer (some ⟨M, 2, none⟩) := hv 15 (by simp) (by decide)
    have e16 : vs 16 = .pointer (some ⟨M, 2 + a, none⟩) := hv 16 (by simp) (by decide)
    have hB := chR_below hR
    have e6 : vs 6 = .pointer (some ⟨pp, 0, none⟩) := hR.2 0 (by simp) (by simp)
    have e7 : vs 7 = .pointer (some ⟨pp, 0, none⟩) := hR.2 1 (by simp) (by simp)
    have e8 : vs 8 = .pointer (some ⟨pp, 1, none⟩) := hR.2 2 (by simp) (by simp)
    have e9 : vs 9 = .slice (some ⟨ff, 0, none⟩) o.flds.length o.flds.length := hR.2 3 (by simp) (by simp)
    have e12 : vs 12 = .pointer (some ⟨ff, ci, none⟩) := hR.2 4 (by simp) (by simp)
    have e13 : vs 13 = .int .i64 y := hR.2 5 (by simp) (by simp)
    clear hv hR
    simp only [e0, e1, e2, e3, e4, e5, e6, e7, e8, e9, e10, e11, e12, e13, e14, e15, e16]
    clear e0 e1 e2 e3 e4 e5 e6 e7 e8 e9 e10 e11 e12 e13 e14 e15 e16
    have hq := (hS0.out.below hB).setRoot a ha y
    have hqH : Hid _ := hq
    have kz : ∃ u, W.cell? ⟨M, 2 + a, none⟩ = some u := ⟨_, (hS0.out.below hB).mode.2.2.2.2.1 a ha⟩
    obtain ⟨u, kz⟩ := kz
    have kf : W.frozen? ⟨M, 2 + a, none⟩ = false := (hS0.out.below hB).mode.2.2.2.2.2 (2 + a)
    have hBH : Hid _ := hB
    clear hB hq
    go_wp2
    go_ret
    exact ⟨_, rfl, out_nil _ _, ⟨_, _, _, _, by rw [hTH.out, ← hydH.out]; exact hqH.out.1.nilF hGH.out.1⟩, hK0.out.trans (((Keep.of hBH.out hS0.out.lo.2).trans hqH.out.2).mono hGH.out.1)⟩
set_option maxRecDepth 100000 in
set_option maxHeartbeats 4000000 in
theorem act3_calls (w : World) (F : Nat → Prop) (M : Nat) (s : StM) (ps fs : List Nat) (ov tv : Value) (a b : Nat) (c : Int) (h : ImW w F M s ps fs ov tv) (hgd : GoodM s) (ha : a < 8) (hb : b < 8) (hcode : fcodeM s (rootM s a) c = 0) :
    Calls Try.prog 28 #[.pointer (some ⟨M, 0, none⟩), .agg #[.int .i64 3, .int .i64 a, .int .i64 b, .int .i64 c]] w fun e w' => ∃ gv, e = .returned gv ∧ OutAt w.heap.size w' gv [] ∧ (∃ ps' fs' ov' tv', ImW w' (fun k => F k ∨ gv.ownBlock = some k) M (putM s (rootM s a) c (rootM s b)) ps' fs' ov' tv') ∧ Keep F w w' := by
  obtain ⟨o, hg, hc0, hcl⟩ := fcodeM_ok hcode
  obtain ⟨ci, rfl⟩ : ∃ ci : Nat, c = ci := ⟨c.toNat, by omega⟩
  have hl : s.obs.length ≤ 400 := hgd.len
  have hI : Hid (InvM s) := hgd.inv
  have h6 : Hid (∀ o ∈ s.obs, o.flds.length ≤ 6) := hgd.fl
  have hS0 : Hid (ImW (w.alloc (.cells #[.int .i64 3, .int .i64 a, .int .i64 b, .int .i64 ci] 27)) (fun k => F k ∨ k = w.heap.size) M s ps fs ov tv) := h.boxed _
  have hK0 : Hid (Keep F w (w.alloc (.cells #[.int .i64 3, .int .i64 a, .int .i64 b, .int .i64 ci] 27))) := Keep.of (below_1 _ _) h.lo.2
  have hbx0 : Hid ((w.alloc (.cells #[.int .i64 3, .int .i64 a, .int .i64 b, .int .i64 ci] 27)).heap[w.heap.size]? = some (.cells #[.int .i64 3, .int .i64 a, .int .i64 b, .int .i64 ci] 27 (0, 0))) := heap_alloc_new _ _
  obtain ⟨T, hT⟩ : ∃ T, T = (putM s (rootM s a) ci (rootM s b)) := ⟨_, rfl⟩
  rw [← hT]
  have hTH : Hid (T = (putM s (rootM s a) ci (rootM s b))) := hT
  clear h hgd hT
  go_enter Try.func28, Try.ntmps28
  go_upto_region 1 with fail
  obtain ⟨bx, hbx⟩ : ∃ bx, bx = w.heap.size := ⟨_, rfl⟩
  rw [← hbx] at hS0 hbx0 ⊢
  clear hbx
  generalize w.alloc (.cells #[.int .i64 3, .int .i64 a, .int .i64 b, .int .i64 ci] 27) = W0 at hS0 hK0 hbx0 ⊢
  obtain ⟨G, hG⟩ : ∃ G : Nat → Prop, G = fun k => F k ∨ k = bx := ⟨_, rfl⟩
  have hGH : Hid ((∀ k, F k → G k) ∧ G bx) := by rw [hG]; exact ⟨fun k q => .inl q, .inr rfl⟩
  rw [← hG] at hS0
  clear hG
  have x0 : W0.cell? ⟨bx, 0, none⟩ = some (.int .i64 3) := cell_of hbx0.out rfl
  have x1 : W0.cell? ⟨bx, 1, none⟩ = some (.int .i64 a) := cell_of hbx0.out rfl
  have x2 : W0.cell? ⟨bx, 2, none⟩ = some (.int .i64 b) := cell_of hbx0.out rfl
  have x3 : W0.cell? ⟨bx, 3, none⟩ = some (.int .i64 ci) := cell_of hbx0.out rfl
  have ho6 : (o.flds.length : Int) ≤ 6 := by have := h6.out o (getM_mem hg); omega
  obtain ⟨pp, hpp⟩ : ∃ pp, pp = ps.getD ((rootM s a).toNat - 1) 0 := ⟨_, rfl⟩
  have hppH : Hid (pp = ps.getD ((rootM s a).toNat - 1) 0) := hpp
  have hgH : Hid (getM s.obs (rootM s a) = some o) := hg
  have hheld : Hid (∀ W, Below W0.heap.size W0 W → Calls Try.prog 52 #[.pointer (some ⟨M, 0, none⟩), .int .i64 a] W fun e w' => e = .returned (.pointer (some ⟨pp, 0, none⟩)) ∧ ∃ n, w' = W.drewN n) := fun W hB => by
    rw [hppH.out]
    exact (held_calls W G M s ps fs ov tv a (hS0.out.below hB) hI.out hl ha).1 o hgH.out
  have hvrr := rootM_rng hI.out b
  have hve : rootM s b = s.roots[b]'(by have := hI.out.rl; omega) := rootM_nat hI.out.rl hb
  obtain ⟨v, hvd⟩ : ∃ v, v = rootM s b := ⟨_, rfl⟩
  rw [← hvd] at hve hvrr
  have hvdH : Hid _ := hvd
  have hvr : Hid (0 ≤ v ∧ v ≤ (s.obs.length : Int)) := hvrr
  have hcells : Hid (∀ W, Below W0.heap.size W0 W → W.cell? ⟨bx, 1, none⟩ = some (.int .i64 a) ∧ W.cell? ⟨bx, 2, none⟩ = some (.int .i64 b) ∧ W.cell? ⟨bx, 3, none⟩ = some (.int .i64 ci) ∧ W.cell? ⟨M, 2 + b, none⟩ = some (.int .i64 v)) := fun W hB => ⟨cellB hB (lt_of hbx0.out) x1, cellB hB (lt_of hbx0.out) x2, cellB hB (lt_of hbx0.out) x3, by rw [hve]; exact (hS0.out.below hB).mode.2.2.2.2.1 b hb⟩
  have ha8 : (a : Int) < 8 := by omega
  have hb8 : (b : Int) < 8 := by omega
  clear hpp hve hvd hg hcode hvrr
  go_wp2_with fail
  clear x0 x1 x2 x3
  refine wp_region_chain (by kernel_rfl) (fun vs => { tmps := #[.pointer (some ⟨M, 0, none⟩), .agg #[.int .i64 3, .int .i64 a, .int .i64 b, .int .i64 ci], undef, .pointer (some ⟨bx, 0, none⟩), .slice none 0 0, .pointer (some ⟨bx, 0, none⟩), .int .i64 3, .bool false, .bool false, undef, undef, undef, undef, undef, undef, undef, undef, undef, undef, .bool false, .bool false, undef, undef, undef, undef, undef, undef, undef, undef, undef, undef, undef, undef, undef, undef, undef, undef, undef, .bool true, .bool true, vs 0, vs 1, vs 2, vs 3, vs 4, vs 5, vs 6, vs 7, vs 8, vs 9, vs 10, vs 11, vs 12, vs 13, vs 14, undef, undef, undef, undef, undef, undef, undef, undef, undef, undef, undef, undef, undef, undef, undef, undef, undef, undef, undef, undef, undef, undef, undef, undef, undef, undef, undef, undef, undef, undef, undef, undef, undef, undef, undef, undef, undef], defers := [] }) [4] (lv1 [.pointer (some ⟨M, 0, none⟩), .pointer (some ⟨M, 0, none⟩), .pointer (some ⟨bx, 1, none⟩), .int .i64 a, .pointer (some ⟨pp, 0, none⟩), .pointer (some ⟨bx, 3, none⟩), .int .i64 ci, .pointer (some ⟨M, 0, none⟩), .pointer (some ⟨bx, 2, none⟩), .int .i64 b, .pointer (some ⟨M, 0, none⟩), .pointer (some ⟨M, 2, none⟩), .pointer (some ⟨M, 2 + b, none⟩), .int .i64 v]) (chR W0 [4] [.pointer (some ⟨pp, 0, none⟩)]) (fun i => undef) rfl (by kernel_rfl) ?_ (chR_loc _ _ _) (allAt_all ⟨?_, ?_, ?_, ?_, ?_, ?_, ?_, ?_, ?_, ?_, ?_, ?_, ?_, ?_, ?_, trivial⟩) ?_ ?_
  case refine_1 => exact ⟨Below.drew (Below.refl _ _), fun j hj hk => absurd hk (by omega)⟩
  case refine_2 =>
    intro _ _ kk vs W hR hv
    have hB := chR_below hR
    clear hv hR
    go_wp2
    exact PurePost.mk' (.pointer (some ⟨M, 0, none⟩)) (by rfl) rfl
  case refine_3 =>
    intro _ _ kk vs W hR hv
    have hB := chR_below hR
    clear hv hR
    go_wp2
    exact PurePost.mk' (.pointer (some ⟨M, 0, none⟩)) (by rfl) rfl
  case refine_4 =>
    intro _ _ kk vs W hR hv
    have hB := chR_below hR
    clear hv hR
    go_wp2
    exact PurePost.mk' (.pointer (some ⟨bx, 1, none⟩)) (by rfl) rfl
  case refine_5 =>
    intro _ _ kk vs W hR hv
    have hB := chR_below hR
    have e2 : vs 2 = .pointer (some ⟨bx, 1, none⟩) := hv ⟨2, .data⟩ (by simp) rfl (by decide)
    obtain ⟨q1, q2, q3, q4⟩ := hcells.out W hB
    clear hv hR
    simp only [e2]
    go_wp2
    exact PurePost.mk' (.int .i64 a) (by first | (rw [← e2]; rfl) | (simp [upd, e2])) rfl
  case refine_6 => exact fun h => absurd (by decide) h
  case refine_7 =>
    intro _ _ kk vs W hR hv
    have hB := chR_below hR
    clear hv hR
    go_wp2
    exact PurePost.mk' (.pointer (some ⟨bx, 3, none⟩)) (by rfl) rfl
  case refine_8 =>
    intro _ _ kk vs W hR hv
    have hB := chR_below hR
    have e5 : vs 5 = .pointer (some ⟨bx, 3, none⟩) := hv ⟨5, .data⟩ (by simp) rfl (by decide)
    obtain ⟨q1, q2, q3, q4⟩ := hcells.out W hB
    clear hv hR
    simp only [e5]
    go_wp2
    exact PurePost.mk' (.int .i64 ci) (by first | (rw [← e5]; rfl) | (simp [upd, e5])) rfl
  case refine_9 =>
    intro _ _ kk vs W hR hv
    have hB := chR_below hR
    clear hv hR
    go_wp2
    exact PurePost.mk' (.pointer (some ⟨M, 0, none⟩)) (by rfl) rfl
  case refine_10 =>
    intro _ _ kk vs W hR hv
    have hB := chR_below hR
    clear hv hR
    go_wp2
    exact PurePost.mk' (.pointer (some ⟨bx, 2, none⟩)) (by rfl) rfl
  case refine_11 =>
    intro _ _ kk vs W hR hv
    have hB := chR_below hR
    have e8 : vs 8 = .pointer (some ⟨bx, 2, none⟩) := hv ⟨8, .data⟩ (by simp) rfl (by decide)
    obtain ⟨q1, q2, q3, q4⟩ := hcells.out W hB
    clear hv hR
    simp only [e8]
    go_wp2
    exact PurePost.mk' (.int .i64 b) (by first | (rw [← e8]; rfl) | (simp [upd, e8])) rfl
  case refine_12 =>
    intro _ _ kk vs W hR hv
    have hB := chR_below hR
    have e7 : vs 7 = .pointer (some ⟨M, 0, none⟩) := hv ⟨7, .data⟩ (by simp) rfl (by decide)
    clear hv hR
    simp only [e7]
    go_wp2
    exact PurePost.mk' (.pointer (some ⟨M, 0, none⟩)) (by show _ = ({ tmps := #[.pointer (some ⟨M, 0, none⟩), .agg #[.int .i64 3, .int .i64 a, .int .i64 b, .int .i64 ci], undef, .pointer (some ⟨bx, 0, none⟩), .slice none 0 0, .pointer (some ⟨bx, 0, none⟩), .int .i64 3, .bool false, .bool false, undef, undef, undef, undef, undef, undef, undef, undef, undef, undef, .bool false, .bool false, undef, undef, undef, undef, undef, undef, undef, undef, undef, undef, undef, undef, undef, undef, undef, undef, undef, .bool true, .bool true, vs 0, vs 1, vs 2, vs 3, vs 4, vs 5, vs 6, vs 7, vs 8, vs 9, .pointer (some ⟨M, 0, none⟩), vs 11, vs 12, vs 13, vs 14, undef, undef, undef, undef, undef, undef, undef, undef, undef, undef, undef, undef, undef, undef, undef, undef, undef, undef, undef, undef, undef, undef, undef, undef, undef, undef, undef, undef, undef, undef, undef, undef, undef, undef, undef, undef, undef], defers := [] } : Act); rw [e7]) rfl
  case refine_13 =>
    intro _ _ kk vs W hR hv
    have hB := chR_below hR
    have e10 : vs 10 = .pointer (some ⟨M, 0, none⟩) := hv ⟨10, .data⟩ (by simp) rfl (by decide)
    clear hv hR
    simp only [e10]
    go_wp2
    exact PurePost.mk' (.pointer (some ⟨M, 2, none⟩)) (by show _ = ({ tmps := #[.pointer (some ⟨M, 0, none⟩), .agg #[.int .i64 3, .int .i64 a, .int .i64 b, .int .i64 ci], undef, .pointer (some ⟨bx, 0, none⟩), .slice none 0 0, .pointer (some ⟨bx, 0, none⟩), .int .i64 3, .bool false, .bool false, undef, undef, undef, undef, undef, undef, undef, undef, undef, undef, .bool false, .bool false, undef, undef, undef, undef, undef, undef, undef, undef, undef, undef, undef, undef, undef, undef, undef, undef, undef, .bool true, .bool true, vs 0, vs 1, vs 2, vs 3, vs 4, vs 5, vs 6, vs 7, vs 8, vs 9, vs 10, .pointer (some ⟨M, 2, none⟩), vs 12, vs 13, vs 14, undef, undef, undef, undef, undef, undef, undef, undef, undef, undef, undef, undef, undef, undef, undef, undef, undef, undef, undef, undef, undef, undef, undef, undef, undef, undef, undef, undef, undef, undef, undef, undef, undef, undef, undef, undef, undef], defers := [] } : Act); rw [e10]) rfl
  case refine_14 =>
    intro _ _ kk vs W hR hv
    have hB := chR_below hR
    have e11 : vs 11 = .pointer (some ⟨M, 2, none⟩) := hv ⟨11, .data⟩ (by simp) rfl (by decide)
    have e9 : vs 9 = .int .i64 b := hv ⟨9, .data⟩ (by simp) rfl (by decide)
    clear hv hR
    simp only [e11, e9]
    go_wp2
    exact PurePost.mk' (.pointer (some ⟨M, 2 + b, none⟩)) (by first | (rw [← e11, ← e9]; rfl) | (simp [upd, e11, e9])) rfl
  case refine_15 =>
    intro _ _ kk vs W hR hv
    have hB := chR_below hR
    have e12 : vs 12 = .pointer (some ⟨M, 2 + b, none⟩) := hv ⟨12, .data⟩ (by simp) rfl (by decide)
    obtain ⟨q1, q2, q3, q4⟩ := hcells.out W hB
    clear hv hR
    simp only [e12]
    go_wp2
    exact PurePost.mk' (.int .i64 v) (by first | (rw [← e12]; rfl) | (simp [upd, e12])) rfl
  case refine_16 => exact fun _ h => absurd h (by simp)
  case refine_17 =>
    intro jj q o hq ho vs W hR hv
    match jj, hq with
    | 0, hq =>
      obtain rfl : q = 4 := by simpa using hq.symm
      obtain rfl := Option.some.inj ho
      have hB := chR_below hR
      have e1 : vs 1 = .pointer (some ⟨M, 0, none⟩) := hv ⟨1, .data⟩ (by simp) rfl (by decide)
      have e3 : vs 3 = .int .i64 a := hv ⟨3, .data⟩ (by simp) rfl (by decide)
      have hRH : Hid _ := hR
      clear hv hR
      simp only [e1, e3]
      go_wp2_with (go_at_call 52; refine (show Calls _ _ _ _ _ from hheld.out W hB).mono ?_; rintro e W2 ⟨rfl, n2, hw2⟩)
      subst hw2
      exact ChainPost.mk' (.pointer (some ⟨pp, 0, none⟩)) (by show _ = ({ tmps := #[.pointer (some ⟨M, 0, none⟩), .agg #[.int .i64 3, .int .i64 a, .int .i64 b, .int .i64 ci], undef, .pointer (some ⟨bx, 0, none⟩), .slice none 0 0, .pointer (some ⟨bx, 0, none⟩), .int .i64 3, .bool false, .bool false, undef, undef, undef, undef, undef, undef, undef, undef, undef, undef, .bool false, .bool false, undef, undef, undef, undef, undef, undef, undef, undef, undef, undef, undef, undef, undef, undef, undef, undef, undef, .bool true, .bool true, vs 0, vs 1, vs 2, vs 3, .pointer (some ⟨pp, 0, none⟩), vs 5, vs 6, vs 7, vs 8, vs 9, vs 10, vs 11, vs 12, vs 13, vs 14, undef, undef, undef, undef, undef, undef, undef, undef, undef, undef, undef, undef, undef, undef, undef, undef, undef, undef, undef, undef, undef, undef, undef, undef, undef, undef, undef, undef, undef, undef, undef, undef, undef, undef, undef, undef, undef], defers := [] } : Act); rw [e1, e3]) (chR_next hRH.out (below_on2 hB (drewN_lt _ _)) (by decide) rfl rfl)
    | jj + 1, hq => simp at hq
  case refine_18 =>
    intro o ho vs W hR hv
    obtain rfl := Option.some.inj ho
    clear ho
    have e0 : vs 0 = .pointer (some ⟨M, 0, none⟩) := hv 0 (by simp) (by decide)
    have e1 : vs 1 = .pointer (some ⟨M, 0, none⟩) := hv 1 (by simp) (by decide)
    have e2 : vs 2 = .pointer (some ⟨bx, 1, none⟩) := hv 2 (by simp) (by decide)
    have e3 : vs 3 = .int .i64 a := hv 3 (by simp) (by decide)
    have e5 : vs 5 = .pointer (some ⟨bx, 3, none⟩) := hv 5 (by simp) (by decide)
    have e6 : vs 6 = .int .i64 ci := hv 6 (by simp) (by decide)
    have e7 : vs 7 = .pointer (some ⟨M, 0, none⟩) := hv 7 (by simp) (by decide)
    have e8 : vs 8 = .pointer (some ⟨bx, 2, none⟩) := hv 8 (by simp) (by decide)
    have e9 : vs 9 = .int .i64 b := hv 9 (by simp) (by decide)
    have e10 : vs 10 = .pointer (some ⟨M, 0, none⟩) := hv 10 (by simp) (by decide)
    have e11 : vs 11 = .pointer (some ⟨M, 2, none⟩) := hv 11 (by simp) (by decide)
    have e12 : vs 12 = .pointer (some ⟨M, 2 + b, none⟩) := hv 12 (by simp) (by decide)
    have e13 : vs 13 = .int .i64 v := hv 13 (by simp) (by decide)
    have hB := chR_below hR
    have e4 : vs 4 = .pointer (some ⟨pp, 0, none⟩) := hR.2 0 (by simp) (by simp)
    clear hv hR
    simp only [e0, e1, e2, e3, e4, e5, e6, e7, e8, e9, e10, e11, e12, e13]
    clear e0 e1 e2 e3 e4 e5 e6 e7 e8 e9 e10 e11 e12 e13
    have hsc : Hid _ := set_calls W G M s ps fs ov tv (rootM s a) v ci o pp (hS0.out.below hB) hI.out hl hgH.out (by omega) (by omega) hvr.out hppH.out
    have hBH : Hid _ := hB
    clear hB
    go_wp2_with (go_at_call 53; refine (show Calls _ _ _ _ _ from hsc.out).mono ?_; rintro e W2 ⟨rfl, ⟨tv2, hI2⟩, hK2⟩; have hI2H : Hid _ := hI2; have hK2H : Hid _ := (Keep.of hBH.out hS0.out.lo.2).trans hK2; clear hI2 hK2)
    go_ret
    exact ⟨_, rfl, out_nil _ _, ⟨_, _, _, _, by rw [hTH.out, ← hvdH.out]; exact hI2H.out.nilF hGH.out.1⟩, hK0.out.trans (hK2H.out.mono hGH.out.1)⟩
set_option maxRecDepth 100000 in
set_option maxHeartbeats 4000000 in
theorem act4_calls (w : World) (F : Nat → Prop) (M : Nat) (s : StM) (ps fs : List Nat) (ov tv : Value) (a b : Nat) (c : Int) (h : ImW w F M s ps fs ov tv) (hgd : GoodM s) (ha : a < 8) (hb : b < 8) :
    Calls Try.prog 28 #[.pointer (some ⟨M, 0, none⟩), .agg #[.int .i64 4, .int .i64 a, .int .i64 b, .int .i64 c]] w fun e w' => ∃ gv, e = .returned gv ∧ OutAt w.heap.size w' gv [] ∧ (∃ ps' fs' ov' tv', ImW w' (fun k => F k ∨ gv.ownBlock = some k) M (setR s a (rootM s b)) ps' fs' ov' tv') ∧ Keep F w w' := by
  have hl : s.obs.length ≤ 400 := hgd.len
  have hI : Hid (InvM s) := hgd.inv
  have h6 : Hid (∀ o ∈ s.obs, o.flds.length ≤ 6) := hgd.fl
  have hS0 : Hid (ImW (w.alloc (.cells #[.int .i64 4, .int .i64 a, .int .i64 b, .int .i64 c] 27)) (fun k => F k ∨ k = w.heap.size) M s ps fs ov tv) := h.boxed _
  have hK0 : Hid (Keep F w (w.alloc (.cells #[.int .i64 4, .int .i64 a, .int .i64 b, .int .i64 c] 27))) := Keep.of (below_1 _ _) h.lo.2
  have hbx0 : Hid ((w.alloc (.cells #[.int .i64 4, .int .i64 a, .int .i64 b, .int .i64 c] 27)).heap[w.heap.size]? = some (.cells #[.int .i64 4, .int .i64 a, .int .i64 b, .int .i64 c] 27 (0, 0))) := heap_alloc_new _ _
  obtain ⟨T, hT⟩ : ∃ T, T = (setR s a (rootM s b)) := ⟨_, rfl⟩
  rw [← hT]
  have hTH : Hid (T = (setR s a (rootM s b))) := hT
  clear h hgd hT
  go_enter Try.func28, Try.ntmps28
  go_upto_region 1 with fail
  obtain ⟨bx, hbx⟩ : ∃ bx, bx = w.heap.size := ⟨_, rfl⟩
  rw [← hbx] at hS0 hbx0 ⊢
  clear hbx
  generalize w.alloc (.cells #[.int .i64 4, .int .i64 a, .int .i64 b, .int .i64 c] 27) = W0 at hS0 hK0 hbx0 ⊢
  obtain ⟨G, hG⟩ : ∃ G : Nat → Prop, G = fun k => F k ∨ k = bx := ⟨_, rfl⟩
  have hGH : Hid ((∀ k, F k → G k) ∧ G bx) := by rw [hG]; exact ⟨fun k q => .inl q, .inr rfl⟩
  rw [← hG] at hS0
  clear hG
  have hb8 : (b : Int) < 8 := by omega
  have hve : rootM s b = s.roots[b]'(by have := hI.out.rl; omega) := rootM_nat hI.out.rl hb
  obtain ⟨v, hvd⟩ : ∃ v, v = rootM s b := ⟨_, rfl⟩
  rw [← hvd] at hve
  have hvdH : Hid _ := hvd
  have kb : W0.cell? ⟨M, 2 + b, none⟩ = some (.int .i64 v) := by rw [hve]; exact hS0.out.mode.2.2.2.2.1 b hb
  clear hve hvd
  have x0 : W0.cell? ⟨bx, 0, none⟩ = some (.int .i64 4) := cell_of hbx0.out rfl
  have x1 : W0.cell? ⟨bx, 1, none⟩ = some (.int .i64 a) := cell_of hbx0.out rfl
  have x2 : W0.cell? ⟨bx, 2, none⟩ = some (.int .i64 b) := cell_of hbx0.out rfl
  have x3 : W0.cell? ⟨bx, 3, none⟩ = some (.int .i64 c) := cell_of hbx0.out rfl
  have ha8 : (a : Int) < 8 := by omega
  have kz : ∃ u, W0.cell? ⟨M, 2 + a, none⟩ = some u := ⟨_, hS0.out.mode.2.2.2.2.1 a ha⟩
  obtain ⟨u, kz⟩ := kz
  have kf : W0.frozen? ⟨M, 2 + a, none⟩ = false := hS0.out.mode.2.2.2.2.2 (2 + a)
  go_wp2_with fail
  go_still_tail 13, (by kernel_rfl)
  go_wp2
  go_ret
  have hr := hS0.out.setRoot a ha v
  exact ⟨_, rfl, out_nil _ _, ⟨_, _, _, _, by rw [hTH.out, ← hvdH.out]; exact (hr.1.below (Below.drew (Below.refl _ _))).nilF hGH.out.1⟩, hK0.out.trans ((hr.2.trans (Keep.of (Below.drew (Below.refl _ _)) hr.1.lo.2)).mono hGH.out.1)⟩
set_option maxRecDepth 100000 in
set_option maxHeartbeats 4000000 in
theorem act5_calls (w : World) (F : Nat → Prop) (M : Nat) (s : StM) (ps fs : List Nat) (ov tv : Value) (a : Nat) (b c : Int) (h : ImW w F M s ps fs ov tv) (hgd : GoodM s) (ha : a < 8) :
    Calls Try.prog 28 #[.pointer (some ⟨M, 0, none⟩), .agg #[.int .i64 5, .int .i64 a, .int .i64 b, .int .i64 c]] w fun e w' => ∃ gv, e = .returned gv ∧ OutAt w.heap.size w' gv [] ∧ (∃ ps' fs' ov' tv', ImW w' (fun k => F k ∨ gv.ownBlock = some k) M (setR s a 0) ps' fs' ov' tv') ∧ Keep F w w' := by
  have hl : s.obs.length ≤ 400 := hgd.len
  have hI : Hid (InvM s) := hgd.inv
  have h6 : Hid (∀ o ∈ s.obs, o.flds.length ≤ 6) := hgd.fl
  have hS0 : Hid (ImW (w.alloc (.cells #[.int .i64 5, .int .i64 a, .int .i64 b, .int .i64 c] 27)) (fun k => F k ∨ k = w.heap.size) M s ps fs ov tv) := h.boxed _
  have hK0 : Hid (Keep F w (w.alloc (.cells #[.int .i64 5, .int .i64 a, .int .i64 b, .int .i64 c] 27))) := Keep.of (below_1 _ _) h.lo.2
  have hbx0 : Hid ((w.alloc (.cells #[.int .i64 5, .int .i64 a, .int .i64 b, .int .i64 c] 27)).heap[w.heap.size]? = some (.cells #[.int .i64 5, .int .i64 a, .int .i64 b, .int .i64 c] 27 (0, 0))) := heap_alloc_new _ _
  obtain ⟨T, hT⟩ : ∃ T, T = (setR s a 0) := ⟨_, rfl⟩
  rw [← hT]
  have hTH : Hid (T = (setR s a 0)) := hT
  clear h hgd hT
  go_enter Try.func28, Try.ntmps28
  go_upto_region 1 with fail
  obtain ⟨bx, hbx⟩ : ∃ bx, bx = w.heap.size := ⟨_, rfl⟩
  rw [← hbx] at hS0 hbx0 ⊢
  clear hbx
  generalize w.alloc (.cells #[.int .i64 5, .int .i64 a, .int .i64 b, .int .i64 c] 27) = W0 at hS0 hK0 hbx0 ⊢
  obtain ⟨G, hG⟩ : ∃ G : Nat → Prop, G = fun k => F k ∨ k = bx := ⟨_, rfl⟩
  have hGH : Hid ((∀ k, F k → G k) ∧ G bx) := by rw [hG]; exact ⟨fun k q => .inl q, .inr rfl⟩
  rw [← hG] at hS0
  clear hG
  have x0 : W0.cell? ⟨bx, 0, none⟩ = some (.int .i64 5) := cell_of hbx0.out rfl
  have x1 : W0.cell? ⟨bx, 1, none⟩ = some (.int .i64 a) := cell_of hbx0.out rfl
  have x2 : W0.cell? ⟨bx, 2, none⟩ = some (.int .i64 b) := cell_of hbx0.out rfl
  have x3 : W0.cell? ⟨bx, 3, none⟩ = some (.int .i64 c) := cell_of hbx0.out rfl
  have ha8 : (a : Int) < 8 := by omega
  have kz : ∃ u, W0.cell? ⟨M, 2 + a, none⟩ = some u := ⟨_, hS0.out.mode.2.2.2.2.1 a ha⟩
  obtain ⟨u, kz⟩ := kz
  have kf : W0.frozen? ⟨M, 2 + a, none⟩ = false := hS0.out.mode.2.2.2.2.2 (2 + a)
  go_wp2_with fail
  go_still_tail 6, (by kernel_rfl)
  go_wp2
  go_ret
  have hr := hS0.out.setRoot a ha 0
  exact ⟨_, rfl, out_nil _ _, ⟨_, _, _, _, by rw [hTH.out]; exact (hr.1.below (Below.drew (Below.refl _ _))).nilF hGH.out.1⟩, hK0.out.trans ((hr.2.trans (Keep.of (Below.drew (Below.refl _ _)) hr.1.lo.2)).mono hGH.out.1)⟩
set_option maxRecDepth 100000 in
set_option maxHeartbeats 4000000 in
theorem act6_calls (w : World) (F : Nat → Prop) (M : Nat) (s : StM) (ps fs : List Nat) (ov tv : Value) (a b c : Int) (h : ImW w F M s ps fs ov tv) (hgd : GoodM s) (hcyc : s.cyc = false) :
    Calls Try.prog 28 #[.pointer (some ⟨M, 0, none⟩), .agg #[.int .i64 6, .int .i64 a, .int .i64 b, .int .i64 c]] w fun e w' => ∃ gv, e = .returned gv ∧ OutAt w.heap.size w' gv [] ∧ (∃ ps' fs' ov' tv', ImW w' (fun k => F k ∨ gv.ownBlock = some k) M s.begin ps' fs' ov' tv') ∧ Keep F w w' := by
  have hl : s.obs.length ≤ 400 := hgd.len
  have hI : Hid (InvM s) := hgd.inv
  have h6 : Hid (∀ o ∈ s.obs, o.flds.length ≤ 6) := hgd.fl
  have hS0 : Hid (ImW (w.alloc (.cells #[.int .i64 6, .int .i64 a, .int .i64 b, .int .i64 c] 27)) (fun k => F k ∨ k = w.heap.size) M s ps fs ov tv) := h.boxed _
  have hK0 : Hid (Keep F w (w.alloc (.cells #[.int .i64 6, .int .i64 a, .int .i64 b, .int .i64 c] 27))) := Keep.of (below_1 _ _) h.lo.2
  have hbx0 : Hid ((w.alloc (.cells #[.int .i64 6, .int .i64 a, .int .i64 b, .int .i64 c] 27)).heap[w.heap.size]? = some (.cells #[.int .i64 6, .int .i64 a, .int .i64 b, .int .i64 c] 27 (0, 0))) := heap_alloc_new _ _
  obtain ⟨T, hT⟩ : ∃ T, T = s.begin := ⟨_, rfl⟩
  rw [← hT]
  have hTH : Hid (T = s.begin) := hT
  clear h hgd hT
  go_enter Try.func28, Try.ntmps28
  go_upto_region 1 with fail
  obtain ⟨bx, hbx⟩ : ∃ bx, bx = w.heap.size := ⟨_, rfl⟩
  rw [← hbx] at hS0 hbx0 ⊢
  clear hbx
  generalize w.alloc (.cells #[.int .i64 6, .int .i64 a, .int .i64 b, .int .i64 c] 27) = W0 at hS0 hK0 hbx0 ⊢
  obtain ⟨G, hG⟩ : ∃ G : Nat → Prop, G = fun k => F k ∨ k = bx := ⟨_, rfl⟩
  have hGH : Hid ((∀ k, F k → G k) ∧ G bx) := by rw [hG]; exact ⟨fun k q => .inl q, .inr rfl⟩
  rw [← hG] at hS0
  clear hG
  have x0 : W0.cell? ⟨bx, 0, none⟩ = some (.int .i64 6) := cell_of hbx0.out rfl
  have x1 : W0.cell? ⟨bx, 1, none⟩ = some (.int .i64 a) := cell_of hbx0.out rfl
  have x2 : W0.cell? ⟨bx, 2, none⟩ = some (.int .i64 b) := cell_of hbx0.out rfl
  have x3 : W0.cell? ⟨bx, 3, none⟩ = some (.int .i64 c) := cell_of hbx0.out rfl
  have hcc : Hid _ := beginM_calls W0 G M s ps fs ov tv hS0.out hI.out hcyc hl
  go_wp2_with (go_at_call 54; refine (show Calls _ _ _ _ _ from hcc.out).mono ?_; rintro e W2 ⟨rfl, ⟨tv2, hI2⟩, hK2⟩; have hI2H : Hid _ := hI2; have hK2H : Hid _ := hK2; clear hI2 hK2)
  go_ret
  exact ⟨_, rfl, out_nil _ _, ⟨_, _, _, _, by rw [hTH.out]; exact hI2H.out.nilF hGH.out.1⟩, hK0.out.trans (hK2H.out.mono hGH.out.1)⟩
set_option maxRecDepth 100000 in
set_option maxHeartbeats 4000000 in
theorem act7_calls (w : World) (F : Nat → Prop) (M : Nat) (s : StM) (ps fs : List Nat) (ov tv : Value) (a : Nat) (b c : Int) (h : ImW w F M s ps fs ov tv) (hgd : GoodM s) (ha : a ≤ 100) :
    Calls Try.prog 28 #[.pointer (some ⟨M, 0, none⟩), .agg #[.int .i64 7, .int .i64 a, .int .i64 b, .int .i64 c]] w fun e w' => ∃ gv, e = .returned gv ∧ OutAt w.heap.size w' gv [] ∧ (∃ ps' fs' ov' tv', ImW w' (fun k => F k ∨ gv.ownBlock = some k) M (StM.steps (a : Int).toNat s) ps' fs' ov' tv') ∧ Keep F w w' := by
  have hl : s.obs.length ≤ 400 := hgd.len
  have hI : Hid (InvM s) := hgd.inv
  have h6 : Hid (∀ o ∈ s.obs, o.flds.length ≤ 6) := hgd.fl
  have hS0 : Hid (ImW (w.alloc (.cells #[.int .i64 7, .int .i64 a, .int .i64 b, .int .i64 c] 27)) (fun k => F k ∨ k = w.heap.size) M s ps fs ov tv) := h.boxed _
  have hK0 : Hid (Keep F w (w.alloc (.cells #[.int .i64 7, .int .i64 a, .int .i64 b, .int .i64 c] 27))) := Keep.of (below_1 _ _) h.lo.2
  have hbx0 : Hid ((w.alloc (.cells #[.int .i64 7, .int .i64 a, .int .i64 b, .int .i64 c] 27)).heap[w.heap.size]? = some (.cells #[.int .i64 7, .int .i64 a, .int .i64 b, .int .i64 c] 27 (0, 0))) := heap_alloc_new _ _
  obtain ⟨T, hT⟩ : ∃ T, T = (StM.steps (a : Int).toNat s) := ⟨_, rfl⟩
  rw [← hT]
  have hTH : Hid (T = (StM.steps (a : Int).toNat s)) := hT
  clear h hgd hT
  go_enter Try.func28, Try.ntmps28
  go_upto_region 1 with fail
  obtain ⟨bx, hbx⟩ : ∃ bx, bx = w.heap.size := ⟨_, rfl⟩
  rw [← hbx] at hS0 hbx0 ⊢
  clear hbx
  generalize w.alloc (.cells #[.int .i64 7, .int .i64 a, .int .i64 b, .int .i64 c] 27) = W0 at hS0 hK0 hbx0 ⊢
  obtain ⟨G, hG⟩ : ∃ G : Nat → Prop, G = fun k => F k ∨ k = bx := ⟨_, rfl⟩
  have hGH : Hid ((∀ k, F k → G k) ∧ G bx) := by rw [hG]; exact ⟨fun k q => .inl q, .inr rfl⟩
  rw [← hG] at hS0
  clear hG
  have x0 : W0.cell? ⟨bx, 0, none⟩ = some (.int .i64 7) := cell_of hbx0.out rfl
  have x1 : W0.cell? ⟨bx, 1, none⟩ = some (.int .i64 a) := cell_of hbx0.out rfl
  have x2 : W0.cell? ⟨bx, 2, none⟩ = some (.int .i64 b) := cell_of hbx0.out rfl
  have x3 : W0.cell? ⟨bx, 3, none⟩ = some (.int .i64 c) := cell_of hbx0.out rfl
  have hcc : Hid _ := stepM_calls W0 G M s ps fs ov tv a hS0.out hI.out hl h6.out (by omega)
  go_wp2_with (go_at_call 55; refine (show Calls _ _ _ _ _ from hcc.out).mono ?_; rintro e W2 ⟨rfl, ⟨tv2, hI2⟩, hK2⟩; have hI2H : Hid _ := hI2; have hK2H : Hid _ := hK2; clear hI2 hK2)
  go_ret
  exact ⟨_, rfl, out_nil _ _, ⟨_, _, _, _, by rw [hTH.out, Int.toNat_natCast]; exact hI2H.out.nilF hGH.out.1⟩, hK0.out.trans (hK2H.out.mono hGH.out.1)⟩
set_option maxRecDepth 100000 in
set_option maxHeartbeats 4000000 in
theorem act8_calls (w : World) (F : Nat → Prop) (M : Nat) (s : StM) (ps fs : List Nat) (ov tv : Value) (a b c : Int) (h : ImW w F M s ps fs ov tv) (hgd : GoodM s)  :
    Calls Try.prog 28 #[.pointer (some ⟨M, 0, none⟩), .agg #[.int .i64 8, .int .i64 a, .int .i64 b, .int .i64 c]] w fun e w' => ∃ gv, e = .returned gv ∧ OutAt w.heap.size w' gv (goneM s.drained.obs) ∧ (∃ ps' fs' ov' tv', ImW w' (fun k => F k ∨ gv.ownBlock = some k) M s.fin ps' fs' ov' tv') ∧ Keep F w w' := by
  have hl : s.obs.length ≤ 400 := hgd.len
  have hI : Hid (InvM s) := hgd.inv
  have h6 : Hid (∀ o ∈ s.obs, o.flds.length ≤ 6) := hgd.fl
  have hS0 : Hid (ImW (w.alloc (.cells #[.int .i64 8, .int .i64 a, .int .i64 b, .int .i64 c] 27)) (fun k => F k ∨ k = w.heap.size) M s ps fs ov tv) := h.boxed _
  have hK0 : Hid (Keep F w (w.alloc (.cells #[.int .i64 8, .int .i64 a, .int .i64 b, .int .i64 c] 27))) := Keep.of (below_1 _ _) h.lo.2
  have hbx0 : Hid ((w.alloc (.cells #[.int .i64 8, .int .i64 a, .int .i64 b, .int .i64 c] 27)).heap[w.heap.size]? = some (.cells #[.int .i64 8, .int .i64 a, .int .i64 b, .int .i64 c] 27 (0, 0))) := heap_alloc_new _ _
  obtain ⟨T, hT⟩ : ∃ T, T = s.fin := ⟨_, rfl⟩
  rw [← hT]
  have hTH : Hid (T = s.fin) := hT
  clear h hgd hT
  go_enter Try.func28, Try.ntmps28
  go_upto_region 1 with fail
  obtain ⟨bx, hbx⟩ : ∃ bx, bx = w.heap.size := ⟨_, rfl⟩
  rw [← hbx] at hS0 hbx0 ⊢
  clear hbx
  generalize w.alloc (.cells #[.int .i64 8, .int .i64 a, .int .i64 b, .int .i64 c] 27) = W0 at hS0 hK0 hbx0 ⊢
  obtain ⟨G, hG⟩ : ∃ G : Nat → Prop, G = fun k => F k ∨ k = bx := ⟨_, rfl⟩
  have hGH : Hid ((∀ k, F k → G k) ∧ G bx) := by rw [hG]; exact ⟨fun k q => .inl q, .inr rfl⟩
  rw [← hG] at hS0
  clear hG
  have x0 : W0.cell? ⟨bx, 0, none⟩ = some (.int .i64 8) := cell_of hbx0.out rfl
  have x1 : W0.cell? ⟨bx, 1, none⟩ = some (.int .i64 a) := cell_of hbx0.out rfl
  have x2 : W0.cell? ⟨bx, 2, none⟩ = some (.int .i64 b) := cell_of hbx0.out rfl
  have x3 : W0.cell? ⟨bx, 3, none⟩ = some (.int .i64 c) := cell_of hbx0.out rfl
  have hcc : Hid _ := endM_calls W0 G M s ps fs ov tv hS0.out hI.out hl h6.out
  go_wp2_with (go_at_call 56; refine (show Calls _ _ _ _ _ from hcc.out).mono ?_; rintro e W2 ⟨gv, rfl, ho2, ⟨tv2, hI2⟩, hK2⟩; have ho2H : Hid _ := ho2; have hI2H : Hid _ := hI2; have hK2H : Hid _ := hK2; obtain ⟨ga, gc, rfl⟩ := own_slice ho2; clear ho2 hI2 hK2)
  go_ret
  exact ⟨_, rfl, own_mono ho2H.out hK0.out.size, ⟨_, _, _, _, by
    rw [hTH.out]
    exact hI2H.out.unbox fun k q => by
      rcases q with q | q
      · exact .inl (hGH.out.1 k q)
      · exact .inr q⟩, hK0.out.trans (hK2H.out.mono hGH.out.1)⟩
end Go.Proofs.Ytchcdlelaklnnaa
