/- The program's marker: an object is made. -/
import Derived.Test.YtchcdlelaklnnaaKmL
namespace Go.Proofs.Ytchcdlelaklnnaa
set_option linter.unusedVariables false
open Go.ChangeShapes Go.WideShapes Go.ChangeAt Go.RowKit

def createM (s : StM) (k : Nat) : StM := { s with obs := s.obs ++ [⟨List.replicate k 0, if s.cyc then 3 else 0, true⟩] }
theorem createM_make (s : StM) (a k : Nat) : setR (createM s k) a ((s.obs.length : Int) + 1) = makeM s a k := by simp [setR, createM, makeM]
theorem tabP_app {ps : List Nat} {obs : List ObM} {p : Nat} {x : ObM} (hx : x.there = true) (hl : ps.length = obs.length) : tabP (ps ++ [p]) (obs ++ [x]) = tabP ps obs ++ [.pointer (some ⟨p, 0, none⟩)] := by
  refine List.ext_getElem (by simp [tabP]) fun i h1 h2 => ?_
  cases i with
  | zero => simp [tabP]
  | succ i =>
    have hi : i < obs.length + 1 := by simp [tabP] at h1; omega
    by_cases e : i < obs.length
    · rw [List.getElem_append_left (by rw [tabP_length]; omega)]
      have e2 : (ps ++ [p])[i]? = ps[i]? := List.getElem?_append_left (by omega)
      have e3 : (obs ++ [x])[i]? = obs[i]? := List.getElem?_append_left e
      simp only [tabP, List.getElem_cons_succ, List.getElem_map, List.getElem_range, List.getD_eq_getElem?_getD, e2, e3]
    · have ei : i = obs.length := by omega
      subst ei
      rw [List.getElem_append_right (by rw [tabP_length]; omega)]
      have e3 : (obs ++ [x])[obs.length]? = some x := by simp
      have e2 : (ps ++ [p])[obs.length]? = some p := by rw [← hl]; simp
      simp only [tabP, List.getElem_cons_succ, List.getElem_map, List.getElem_range, List.getD_eq_getElem?_getD, e2, e3]
      simp [hx]
theorem rowP_app {ps : List Nat} {p : Nat} {row : List Int} (h : ∀ z ∈ row, 1 ≤ z ∧ z ≤ (ps.length : Int)) : rowP (ps ++ [p]) row = rowP ps row := by
  unfold rowP
  refine List.map_congr_left fun z hz => ?_
  have := h z hz
  rw [getD_app, if_neg (by omega)]
theorem ImW.made {w W w3 : World} {F : Nat → Prop} {M : Nat} {s : StM} {ps fs : List Nat} {ov ov' tv : Value} {p f k : Nat} {ob : Obj} (h : ImW w F M s ps fs ov tv) (hB : Below w.heap.size w W)
    (hp : W.heap[p]? = some (.cells #[.int .i64 ((s.obs.length : Int) + 1), .slice (some ⟨f, 0, none⟩) k k, .int .i64 (if s.cyc then 3 else 0)] 38 (0, 0))) (hf : W.heap[f]? = some (.cells (intsV (List.replicate k 0)).toArray 2 (0, 0))) (hpl : w.heap.size ≤ p) (hfl : w.heap.size ≤ f)
    (hrow : ∀ z ∈ s.row, 1 ≤ z ∧ z ≤ (s.obs.length : Int))
    (hg : (W.alloc ob).grownBy w3 ov.ownBlock) (ho : w3.ownsRow 0 62 1 ov' (s.obs.length + 1 + 1) (tabP ps s.obs ++ [.pointer (some ⟨p, 0, none⟩)])) (ha : ov'.ownBlock = ov.ownBlock ∨ ov'.ownBlock = some (W.alloc ob).heap.size) :
    (ImW (w3.setCell ⟨M, 1, none⟩ ov') F M (createM s k) (ps ++ [p]) (fs ++ [f]) ov' tv ∧ Keep F w (w3.setCell ⟨M, 1, none⟩ ov')) ∧ w3.cell? ⟨M, 1, none⟩ = some ov ∧ w3.frozen? ⟨M, 1, none⟩ = false ∧ (w3.setCell ⟨M, 1, none⟩ ov').cell? ⟨p, 0, none⟩ = some (.int .i64 ((s.obs.length : Int) + 1)) := by
  have s1 : (W.alloc ob).heap.size = W.heap.size + 1 := World.size_alloc _ _
  have s2 := hg.size
  have s3 := hB.size
  have hplt := lt_of hp
  have hflt := lt_of hf
  have hov : ∀ j, ov.ownBlock = some j → j < w.heap.size := fun j q => (h.ltO q).1
  have kp : ∀ j, j < W.heap.size → ov.ownBlock ≠ some j → w3.heap[j]? = W.heap[j]? := fun j hj hq => by
    rw [hg.block j (by omega) (fun e => hq e.symm), Below.heap_alloc _ _ _ hj]
  have hMo : ov.ownBlock ≠ some M := fun q => by
    obtain ⟨_, cur, b⟩ := h.ltO q
    exact tag_ne b h.blk (by decide) rfl
  have k3M := ((kp M (by have := lt_of h.blk; omega) hMo).trans (hB.block M (lt_of h.blk))).trans h.blk
  have kold : ∀ j, j < w.heap.size → ov.ownBlock ≠ some j → j ≠ M → (w3.setCell ⟨M, 1, none⟩ ov').heap[j]? = w.heap[j]? := fun j h0 h1 h2 => by
    rw [set_other _ h2, kp j (by omega) h1]
    exact hB.block j h0
  have k3p := (kp p hplt (fun q => by have := hov p q; omega)).trans hp
  have k3f := (kp f hflt (fun q => by have := hov f q; omega)).trans hf
  have hML := lt_of h.blk
  have hps : ps.length = s.obs.length := h.ob.lp
  have hfs : fs.length = s.obs.length := h.ob.lf
  have hov' : ∀ j, ov'.ownBlock = some j → ov.ownBlock = some j ∨ W.heap.size ≤ j := fun j q => by
    rcases ha with e | e
    · exact .inl (e.symm.trans q)
    · rw [e] at q
      injection q with q
      exact .inr (by omega)
  have hob := h.ob.kept (w' := w3.setCell ⟨M, 1, none⟩ ov') fun j cs t b c => kold j (lt_of b) (fun q => by
    obtain ⟨_, cur, d⟩ := h.ltO q
    exact tag_ne d b (by rcases c with c | c; rw [c]; decide; rw [c.1]; decide) rfl) (tag_ne b h.blk (by rcases c with c | c; rw [c]; decide; rw [c.1]; decide))
  obtain ⟨r0, r1, r2, r3, r4, r5, r6, r7, er⟩ := roots8 h.rl
  refine ⟨⟨⟨⟨by simp [createM, hps], by simp [createM, hfs], fun i o hi => ?_, ?_, ⟨fun q hq => ?_, fun q hq => ?_⟩⟩, ?_, ?_, ?_, fun j q r => ?_, h.rl, ⟨h.lo.1, fun j q => ?_⟩, ⟨fun j q r => ?_, h.fo.2⟩⟩, ?_⟩, ?_, ?_, ?_⟩
  · have hi : (s.obs ++ [⟨List.replicate k 0, if s.cyc then 3 else 0, true⟩])[i]? = some o := hi
    by_cases e : i < s.obs.length
    · rw [List.getElem?_append_left e] at hi
      rw [getD_app, getD_app, if_neg (by omega), if_neg (by omega)]
      exact hob.at_ i o hi
    · have hil := (List.getElem?_eq_some_iff.1 hi).1
      have ei : i = s.obs.length := by simp at hil; omega
      subst ei
      rw [List.getElem?_append_right (Nat.le_refl _)] at hi
      simp at hi
      subst hi
      rw [getD_app, getD_app, if_pos hps.symm, if_pos hfs.symm]
      refine ⟨?_, ?_⟩
      · rw [set_other _ (by omega), k3p]
        simp
      · rw [set_other _ (by omega), k3f]
  · refine List.nodup_append.2 ⟨h.ob.nd, by simp, fun x hx y hy => ?_⟩
    have : y = f := by simpa using hy
    subst this
    have := (h.ob.lt (k := x) (.inr hx)).1
    omega
  · rcases List.mem_append.1 hq with hq | hq
    · exact h.ob.lo.1 q hq
    · have : q = p := by simpa using hq
      subst this
      intro r
      have := h.lo.2 _ r
      omega
  · rcases List.mem_append.1 hq with hq | hq
    · exact h.ob.lo.2 q hq
    · have : q = f := by simpa using hq
      subst this
      intro r
      have := h.lo.2 _ r
      omega
  · rw [set_same _ k3M]
    congr 2
    simp [mkC, createM, er, intsV]
  · show World.ownsRow _ _ _ _ _ ((s.obs ++ [(⟨List.replicate k 0, if s.cyc then 3 else 0, true⟩ : ObM)]).length + 1) (tabP (ps ++ [p]) (s.obs ++ [(⟨List.replicate k 0, if s.cyc then 3 else 0, true⟩ : ObM)]))
    rw [tabP_app rfl hps, List.length_append]
    exact own_kept ho fun j q => by
      obtain ⟨cur, b⟩ := own_tag ho q
      exact set_other _ (tag_ne b k3M (by decide))
  · show QAt _ 62 tv (rowP (ps ++ [p]) s.row)
    rw [rowP_app (by rw [hps]; exact hrow)]
    refine h.ro.kept fun j q => ?_
    obtain ⟨hl, cur, b⟩ := h.ltT q
    exact kold j hl (fun r => h.ne j r q) (tag_ne b h.blk (by decide))
  · rcases hov' j q with e | e
    · exact h.ne j e r
    · have := (h.ltT r).1
      omega
  · have := h.lo.2 j q
    simp [World.setCell]
    omega
  · rcases hov' j q with e | e
    · exact h.fo.1 j e r
    · have := h.lo.2 j r
      omega
  · refine ⟨hg.os.trans hB.os, hg.tape.trans hB.tape, hg.output.trans hB.output, by simp [World.setCell]; omega, fun j hj => ?_⟩
    exact kold j (h.lo.2 j hj) (fun q => h.fo.1 j q hj) (fun e => h.lo.1 (by rw [← e]; exact hj))
  · exact cell_of k3M (by simp [mkC])
  · exact free_of k3M
  · exact cell_of ((set_other _ (by omega)).trans k3p) rfl
set_option maxRecDepth 100000 in
set_option maxHeartbeats 1000000 in
theorem create_calls (w : World) (F : Nat → Prop) (M : Nat) (s : StM) (ps fs : List Nat) (ov tv : Value) (k : Nat) (h : ImW w F M s ps fs ov tv) (hi : InvM s) (hl : s.obs.length < 400) (hk : k ≤ 6) :
    Calls Try.prog 51 #[.pointer (some ⟨M, 0, none⟩), .int .i64 k] w fun e w' => e = .returned (.int .i64 ((s.obs.length : Int) + 1)) ∧ (∃ ps' fs' ov', ImW w' F M (createM s k) ps' fs' ov' tv) ∧ Keep F w w' := by
  have hH : Hid (ImW w F M s ps fs ov tv) := h
  have hrow : Hid (∀ z ∈ s.row, 1 ≤ z ∧ z ≤ (s.obs.length : Int)) := fun z hz => by
    obtain ⟨o, ho, _⟩ := (hi.gr z).1 hz
    exact getM_le ho
  obtain ⟨oa, oc, rfl⟩ := own_slice h.ow
  have hc1 : Hid (∀ W, Below w.heap.size w W → W.cell? ⟨M, 1, none⟩ = some (.slice oa (s.obs.length + 1) oc)) := fun W hB => cellB hB (lt_of h.blk) h.mode.2.1
  obtain ⟨i9, hi9, hz9, hs9, hb9⟩ := int_info
  clear h hi
  go_enter Try.func51, Try.ntmps51
  go_upto_region 1 with fail
  refine wp_region_chain (by kernel_rfl) (fun vs => { tmps := #[.pointer (some ⟨M, 0, none⟩), .int .i64 k, undef, undef, .int .i64 0, vs 9, vs 0, vs 1, vs 2, vs 3, vs 4, vs 5, vs 6, vs 7, vs 8, undef, undef, undef, undef, undef, undef, undef, undef, undef, undef, undef, undef, undef, undef, undef, undef, undef, undef, undef, undef, undef], defers := [] }) [6, 7, 8] (lv1 [.pointer (some ⟨M, 0, none⟩), .pointer (some ⟨M, 0, none⟩), .pointer (some ⟨M, 1, none⟩), .slice oa (s.obs.length + 1) oc, .int .i64 ((s.obs.length : Int) + 1), .int .i64 k, undef, undef, undef]) (objR w k ((s.obs.length : Int) + 1)) (fun i => undef) rfl (by kernel_rfl) ?_ (objR_loc _ _ _) (allAt_all ⟨?_, ?_, ?_, ?_, ?_, ?_, ?_, ?_, ?_, ?_, trivial⟩) ?_ ?_
  case refine_1 => exact Below.drew (Below.refl _ _)
  case refine_2 =>
    intro _ _ kk vs W hR hv
    have hB := objR_below hR
    clear hv hR
    go_wp2
    exact PurePost.mk' (.pointer (some ⟨M, 0, none⟩)) (by rfl) rfl
  case refine_3 =>
    intro _ _ kk vs W hR hv
    have hB := objR_below hR
    have e0 : vs 0 = .pointer (some ⟨M, 0, none⟩) := hv ⟨0, .data⟩ (by simp) rfl (by decide)
    clear hv hR
    simp only [e0]
    go_wp2
    exact PurePost.mk' (.pointer (some ⟨M, 0, none⟩)) (by show _ = ({ tmps := #[.pointer (some ⟨M, 0, none⟩), .int .i64 k, undef, undef, .int .i64 0, vs 9, vs 0, .pointer (some ⟨M, 0, none⟩), vs 2, vs 3, vs 4, vs 5, vs 6, vs 7, vs 8, undef, undef, undef, undef, undef, undef, undef, undef, undef, undef, undef, undef, undef, undef, undef, undef, undef, undef, undef, undef, undef], defers := [] } : Act); rw [e0]) rfl
  case refine_4 =>
    intro _ _ kk vs W hR hv
    have hB := objR_below hR
    have e1 : vs 1 = .pointer (some ⟨M, 0, none⟩) := hv ⟨1, .data⟩ (by simp) rfl (by decide)
    clear hv hR
    simp only [e1]
    go_wp2
    exact PurePost.mk' (.pointer (some ⟨M, 1, none⟩)) (by show _ = ({ tmps := #[.pointer (some ⟨M, 0, none⟩), .int .i64 k, undef, undef, .int .i64 0, vs 9, vs 0, vs 1, .pointer (some ⟨M, 1, none⟩), vs 3, vs 4, vs 5, vs 6, vs 7, vs 8, undef, undef, undef, undef, undef, undef, undef, undef, undef, undef, undef, undef, undef, undef, undef, undef, undef, undef, undef, undef, undef], defers := [] } : Act); rw [e1]) rfl
  case refine_5 =>
    intro _ _ kk vs W hR hv
    have hB := objR_below hR
    have e2 : vs 2 = .pointer (some ⟨M, 1, none⟩) := hv ⟨2, .data⟩ (by simp) rfl (by decide)
    have q1 := hc1.out W hB
    clear hv hR
    simp only [e2]
    go_wp2
    exact PurePost.mk' (.slice oa (s.obs.length + 1) oc) (by first | (rw [← e2]; rfl) | (simp [upd, e2])) rfl
  case refine_6 =>
    intro _ _ kk vs W hR hv
    have hB := objR_below hR
    have e3 : vs 3 = .slice oa (s.obs.length + 1) oc := hv ⟨3, .data⟩ (by simp) rfl (by decide)
    clear hv hR
    simp only [e3]
    go_wp2
    exact PurePost.mk' (.int .i64 ((s.obs.length : Int) + 1)) (by first | (rw [← e3]; rfl) | (simp [upd, e3])) rfl
  case refine_7 =>
    intro _ _ kk vs W hR hv
    have hB := objR_below hR
    clear hv hR
    go_wp2
    exact PurePost.mk' (.int .i64 k) (by rfl) rfl
  case refine_8 => exact fun h => absurd (by decide) h
  case refine_9 => exact fun h => absurd (by decide) h
  case refine_10 => exact fun h => absurd (by decide) h
  case refine_11 => exact fun _ h => absurd h (by simp)
  case refine_12 =>
    intro jj q o hq ho vs W hR hv
    match jj, hq with
    | 0, hq =>
      obtain rfl : q = 6 := by simpa using hq.symm
      obtain rfl := Option.some.inj ho
      have hB : Below w.heap.size w W := hR
      have e5 : vs 5 = .int .i64 k := hv ⟨5, .data⟩ (by simp) rfl (by decide)
      clear hv hR
      refine wpList_make_full _ rfl (.tmp 11) (.tmp 11) 32 rfl W.heap.size 2 i9 (.int .i64 0) 1 Try.underlying32 hi9 hz9 hs9 .i64 .i64 k k k e5 e5 rfl rfl (by rw [hb9]; omega) (by unfold maxLen; omega) (Nat.le_refl _) ?_
      intro w2 hown hgrow
      refine wpList_nil ?_
      exact ChainPost.mk' (.slice (some ⟨W.heap.size, 0, none⟩) k k) (by rfl) ⟨hB.trans (below_of_grown hgrow hB.size), W.heap.size, by simp [upd], made_row hown, hB.size⟩
    | 1, hq =>
      obtain rfl : q = 7 := by simpa using hq.symm
      obtain rfl := Option.some.inj ho
      obtain ⟨hB, f, e6, hf⟩ := hR
      have e4 : vs 4 = .int .i64 ((s.obs.length : Int) + 1) := hv ⟨4, .data⟩ (by simp) rfl (by decide)
      clear hv
      simp only [e4, e6]
      go_wp2
      exact ChainPost.mk' (.agg #[.int .i64 ((s.obs.length : Int) + 1), .slice (some ⟨f, 0, none⟩) k k, .int .i64 0]) (by simp [upd, e4, e6]) ⟨hB, f, by simp [upd, e6], by simp [upd], hf⟩
    | 2, hq =>
      obtain rfl : q = 8 := by simpa using hq.symm
      obtain rfl := Option.some.inj ho
      obtain ⟨hB, f, e6, e7, hf⟩ := hR
      clear hv
      simp only [e7]
      go_wp2
      exact ChainPost.mk' (.pointer (some ⟨W.heap.size, 0, none⟩)) (by simp [upd, e7]) ⟨below_on hB (below_1 _ _), f, W.heap.size, by simp [upd, e6], by simp [upd, e7], by simp [upd], ⟨(Below.heap_alloc _ _ _ (lt_of hf.1)).trans hf.1, hf.2⟩, heap_alloc_new _ _, hB.size⟩
    | jj + 3, hq => simp at hq
  case refine_13 =>
    intro o ho vs W hR hv
    obtain rfl := Option.some.inj ho
    clear ho
    have e0 : vs 0 = .pointer (some ⟨M, 0, none⟩) := hv 0 (by simp) (by decide)
    have e1 : vs 1 = .pointer (some ⟨M, 0, none⟩) := hv 1 (by simp) (by decide)
    have e2 : vs 2 = .pointer (some ⟨M, 1, none⟩) := hv 2 (by simp) (by decide)
    have e3 : vs 3 = .slice oa (s.obs.length + 1) oc := hv 3 (by simp) (by decide)
    have e4 : vs 4 = .int .i64 ((s.obs.length : Int) + 1) := hv 4 (by simp) (by decide)
    have e5 : vs 5 = .int .i64 k := hv 5 (by simp) (by decide)
    obtain ⟨hB, f, p, e6, e7, e8, hf, hp, hlp⟩ := hR
    clear hv
    simp only [e6, e7, e8, e0, e1, e2, e3, e4, e5]
    clear e6 e7 e8 e0 e1 e2 e3 e4 e5
    have hM : Hid (W.heap[p]? = some (.cells #[.int .i64 ((s.obs.length : Int) + 1), .slice (some ⟨f, 0, none⟩) k k, .int .i64 0] 38 (0, 0))) := hp
    have hfH : Hid _ := hf
    have hplH : Hid (w.heap.size ≤ p) := hlp
    have hBH : Hid (Below w.heap.size w W) := hB
    have k3 : W.cell? ⟨M, 10, none⟩ = some (.bool s.cyc) := cellB hB (lt_of hH.out.blk) hH.out.mode.2.2.1
    have k2 : W.cell? ⟨p, 2, none⟩ = some (.int .i64 0) := cell_of hp rfl
    have f2 : W.frozen? ⟨p, 2, none⟩ = false := free_of hp
    clear hf hp hlp hB hc1
    cases hcy : s.cyc
    case' false =>
      rw [hcy] at k3
      have hMc : Hid (Below w.heap.size w W ∧ W.heap[p]? = some (.cells #[.int .i64 ((s.obs.length : Int) + 1), .slice (some ⟨f, 0, none⟩) k k, .int .i64 (if s.cyc then 3 else 0)] 38 (0, 0)) ∧ W.heap[f]? = some (.cells (intsV (List.replicate k 0)).toArray 2 (0, 0))) := by
        show _ ∧ W.heap[p]? = some (.cells #[_, _, .int .i64 (if s.cyc then 3 else 0)] 38 (0, 0)) ∧ _
        rw [hcy]; exact ⟨hBH.out, hM.out, hfH.out.1⟩
      clear hcy k2 f2 hM
      go_upto_region 4 with fail
      clear k3
    case' true =>
      rw [hcy] at k3
      have hMc : Hid (Below w.heap.size w (W.setCell ⟨p, 2, none⟩ (.int .i64 3)) ∧ (W.setCell ⟨p, 2, none⟩ (.int .i64 3)).heap[p]? = some (.cells #[.int .i64 ((s.obs.length : Int) + 1), .slice (some ⟨f, 0, none⟩) k k, .int .i64 (if s.cyc then 3 else 0)] 38 (0, 0)) ∧ (W.setCell ⟨p, 2, none⟩ (.int .i64 3)).heap[f]? = some (.cells (intsV (List.replicate k 0)).toArray 2 (0, 0))) := by
        show _ ∧ (W.setCell ⟨p, 2, none⟩ (.int .i64 3)).heap[p]? = some (.cells #[_, _, .int .i64 (if s.cyc then 3 else 0)] 38 (0, 0)) ∧ _
        rw [hcy]
        refine ⟨hBH.out.setCell (p := ⟨p, 2, none⟩) hplH.out _, ?_, ?_⟩
        · rw [set_same _ hM.out]; rfl
        · rw [set_other _ (tag_ne hfH.out.1 hM.out (by decide))]; exact hfH.out.1
      clear hcy hM
      go_upto_region 4 with fail
      clear k3 k2 f2
      have hBH2 : Hid _ := hMc.out.1
      clear hBH
      generalize W.setCell ⟨p, 2, none⟩ (.int .i64 3) = W at hMc hBH2 ⊢
      have hBH : Hid _ := hBH2
    all_goals
      have k1 : W.cell? ⟨M, 1, none⟩ = some (.slice oa (s.obs.length + 1) oc) := cellB hMc.out.1 (lt_of hH.out.blk) hH.out.mode.2.1
      have hdone : Hid (∀ (w3 : World) (ov' : Value) (ob : Obj), (W.alloc ob).grownBy w3 (Value.slice oa (s.obs.length + 1) oc).ownBlock → w3.ownsRow 0 62 1 ov' (s.obs.length + 1 + 1) (tabP ps s.obs ++ [.pointer (some ⟨p, 0, none⟩)]) → (ov'.ownBlock = (Value.slice oa (s.obs.length + 1) oc).ownBlock ∨ ov'.ownBlock = some (W.alloc ob).heap.size) → _) := fun w3 ov' ob a1 a2 a3 => ImW.made hH.out hMc.out.1 hMc.out.2.1 hMc.out.2.2 hplH.out hfH.out.2 hrow.out a1 a2 a3
      have hloA : Hid ((W.alloc (.cells #[.pointer (some ⟨p, 0, none⟩)] 62)).ownsRow 0 62 1 (.slice oa (s.obs.length + 1) oc) (s.obs.length + 1) (tabP ps s.obs)) := by
        refine own_kept hH.out.ow fun j hj => ?_
        have hjl := (World.ownsRow.lt hH.out.ow j hj).2
        have hs := hMc.out.1.size
        rw [Below.heap_alloc _ _ _ (by omega)]
        exact hMc.out.1.block j hjl
      have hsrcA : Hid (SrcAt (W.alloc (.cells #[.pointer (some ⟨p, 0, none⟩)] 62)) 1 (.slice (some ⟨W.heap.size, 0, none⟩) 1 1) 1 [.pointer (some ⟨p, 0, none⟩)]) := src_one W _ 62
      obtain ⟨i8, hi8, hz8, hs8, hb8⟩ := ptr_info
      clear hMc hH hBH hfH
      go_wp2_with (refine wpList_append_src rfl (.tmp 26) (.tmp 28) 59 rfl 0 62 i8 (.pointer none) 1 8 Try.underlying59 hi8 hz8 hs8 hb8 rfl (by omega) _ (s.obs.length + 1) (tabP ps s.obs) rfl hloA.out _ 1 [.pointer (some ⟨p, 0, none⟩)] rfl hsrcA.out (by simp [Value.oneCell']) (by unfold maxLen; omega) (by omega) (Nat.zero_le _) (fun ov' w3 hown2 hgrow2 hat2 => ?_); have hd := hdone.out w3 ov' _ hgrow2 hown2 hat2; obtain ⟨oa', oc', rfl⟩ := own_slice hown2; obtain ⟨hd1, hd2, hd3, hd4⟩ := hd; have hd1H : Hid _ := hd1; clear hown2 hgrow2 hat2 hd1)
      go_ret
      exact ⟨rfl, ⟨_, _, _, hd1H.out.1⟩, hd1H.out.2⟩
end Go.Proofs.Ytchcdlelaklnnaa
