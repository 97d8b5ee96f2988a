/- The specification's heap: a cycle ends (the walk). -/
import Derived.Test.YtcigiilhlealdaaKsF
namespace Go.Proofs.Ytcigiilhlealdaa
set_option linter.unusedVariables false
open Go.ChangeShapes Go.WideShapes Go.ChangeAt Go.RowKit

/-- Where the sweep stands. -/
structure SwW (w wr : World) (F : Nat → Prop) (H : Nat) (t : StM) (ps fs : List Nat) (ov : Value) (R : Nat) (qv gv lv : Value) (ix : List Nat) : Prop where
  sp : SpW wr (fun k => F k ∨ gv.ownBlock = some k ∨ lv.ownBlock = some k) H { t with obs := sweepK t.obs ix } ps fs ov R qv
  go : OutAt w.heap.size wr gv (goneL t.obs ix)
  le : wr.ownsRow w.heap.size 67 1 lv (leftL t.obs ix).length (ptrsP ps (leftL t.obs ix))
  kp : Keep F w wr
  fl : ∀ k, F k → k < w.heap.size
theorem SwW.ne {w wr : World} {F : Nat → Prop} {H : Nat} {t : StM} {ps fs : List Nat} {ov : Value} {R : Nat} {qv gv lv : Value} {ix : List Nat} (h : SwW w wr F H t ps fs ov R qv gv lv ix) {k : Nat} : (gv.ownBlock = some k → ¬ F k ∧ lv.ownBlock ≠ some k ∧ k < wr.heap.size) ∧ (lv.ownBlock = some k → ¬ F k ∧ gv.ownBlock ≠ some k ∧ k < wr.heap.size) := by
  refine ⟨fun q => ⟨fun r => ?_, fun r => ?_, (World.ownsRow.lt h.go k q).2⟩, fun q => ⟨fun r => ?_, fun r => ?_, (World.ownsRow.lt h.le k q).2⟩⟩
  · have := (World.ownsRow.lt h.go k q).1
    have := h.fl k r
    omega
  · obtain ⟨c1, a⟩ := own_tag h.go q
    obtain ⟨c2, b⟩ := own_tag h.le r
    exact tag_ne a b (by decide) rfl
  · have := (World.ownsRow.lt h.le k q).1
    have := h.fl k r
    omega
  · obtain ⟨c1, a⟩ := own_tag h.le q
    obtain ⟨c2, b⟩ := own_tag h.go r
    exact tag_ne a b (by decide) rfl
theorem goneL_snoc {obs : List ObM} {ix : List Nat} {i : Nat} {o : ObM} (h : obs[i]? = some o) (hc : o.col = 1) : goneL obs (ix ++ [i]) = goneL obs ix ++ [(i : Int) + 1] ∧ leftL obs (ix ++ [i]) = leftL obs ix := by
  have e : whiteAt obs i = true := by rw [whiteAt_of h]; simp [hc]
  unfold goneL leftL
  rw [List.filter_append, List.filter_append]
  simp [e]
theorem leftL_snoc {obs : List ObM} {ix : List Nat} {i : Nat} {o : ObM} (h : obs[i]? = some o) (hc : o.col ≠ 1) : leftL obs (ix ++ [i]) = leftL obs ix ++ [i] ∧ goneL obs (ix ++ [i]) = goneL obs ix := by
  have e : whiteAt obs i = false := by rw [whiteAt_of h]; simp [hc]
  unfold goneL leftL
  rw [List.filter_append, List.filter_append]
  simp [e]
theorem SwW.gone {w wr w3 : World} {F : Nat → Prop} {H : Nat} {t : StM} {ps fs : List Nat} {ov : Value} {R : Nat} {qv gv lv gv' : Value} {ix : List Nat} {i : Nat} {o : ObM} {ob : Obj} (h : SwW w wr F H t ps fs ov R qv gv lv ix) (hi : t.obs[i]? = some o) (hc : o.col = 1) (hg : (wr.alloc ob).grownBy w3 gv.ownBlock) (ho : w3.ownsRow w.heap.size 2 1 gv' ((goneL t.obs ix).length + 1) (intsV (goneL t.obs ix) ++ [.int .i64 ((i : Int) + 1)])) (ha : gv'.ownBlock = gv.ownBlock ∨ gv'.ownBlock = some (wr.alloc ob).heap.size) : SwW w w3 F H t ps fs ov R qv gv' lv (ix ++ [i]) := by
  have s1 : (wr.alloc ob).heap.size = wr.heap.size + 1 := World.size_alloc _ _
  have s2 := hg.size
  have kp : ∀ k, k < wr.heap.size → gv.ownBlock ≠ some k → w3.heap[k]? = wr.heap[k]? := fun k hk hq => by
    rw [hg.block k (by omega) (fun e => hq e.symm), Below.heap_alloc _ _ _ hk]
  have hnew : ∀ k, k < wr.heap.size → gv.ownBlock ≠ some k → gv'.ownBlock ≠ some k := fun k hk hq q => by
    rcases ha with e | e
    · exact hq (e.symm.trans q)
    · rw [e] at q
      injection q with q
      omega
  obtain ⟨e1, e2⟩ := goneL_snoc (ix := ix) hi hc
  refine ⟨?_, ?_, ?_, ?_, h.fl⟩
  · rw [sweepK_white hi hc]
    refine h.sp.mv (fun k hk hn => ⟨kp k hk (fun q => hn (.inr (.inl q))), fun q => ?_⟩) fun k hk => ?_
    · rcases q with q | q | q
      · exact hn (.inl q)
      · exact hnew k hk (fun q => hn (.inr (.inl q))) q
      · exact hn (.inr (.inr q))
    · rcases hk with q | q | q
      · have := h.fl k q
        have := h.kp.size
        omega
      · exact (World.ownsRow.lt ho k q).2
      · have := (h.ne.2 q).2.2
        omega
  · rw [e1]
    unfold OutAt
    rw [List.length_append, intsV_append]
    exact ho
  · rw [e2]
    exact own_kept h.le fun k q => kp k (h.ne.2 q).2.2 (h.ne.2 q).2.1
  · refine h.kp.trans ⟨hg.os, hg.tape, hg.output, by omega, fun k hk => ?_⟩
    have := h.fl k hk
    have := h.kp.size
    exact kp k (by omega) (fun q => (h.ne.1 q).1 hk)
theorem SwW.clear {w wr : World} {F : Nat → Prop} {H : Nat} {t : StM} {ps fs : List Nat} {ov : Value} {R : Nat} {qv gv lv : Value} {ix : List Nat} {i : Nat} {o : ObM} (h : SwW w wr F H t ps fs ov R qv gv lv ix) (hi : getM t.obs ((i : Int) + 1) = some o) (hn : i ∉ ix) (hc : o.col ≠ 1) : SpW (wr.setCell ⟨ps.getD i 0, 2, none⟩ (.int .i64 0)) (fun k => F k ∨ gv.ownBlock = some k ∨ lv.ownBlock = some k) H { t with obs := sweepK t.obs (ix ++ [i]) } ps fs ov R qv ∧ ¬ F (ps.getD i 0) ∧ gv.ownBlock ≠ some (ps.getD i 0) ∧ lv.ownBlock ≠ some (ps.getD i 0) := by
  have hg := sweepK_cur (ix := ix) hi hn
  have hs := h.sp.colour (z := (i : Int) + 1) hg 0
  rw [show ((i : Int) + 1).toNat - 1 = i by omega] at hs
  obtain ⟨_, h2, _⟩ := getM_some.1 hi
  rw [show ((i : Int) + 1).toNat - 1 = i by omega] at h2
  have hp := h.sp.ob.lo.1 (ps.getD i 0) (by
    have hl := (List.getElem?_eq_some_iff.1 h2).1
    have q : ps.length = (sweepK t.obs ix).length := h.sp.ob.lp
    rw [sweepK_length] at q
    rw [List.getD_eq_getElem?_getD, List.getElem?_eq_getElem (by omega)]
    exact List.getElem_mem _)
  rw [sweepK_left h2 hc]
  exact ⟨hs, fun q => hp (.inl q), fun q => hp (.inr (.inl q)), fun q => hp (.inr (.inr q))⟩
theorem SwW.left {w wr w3 : World} {F : Nat → Prop} {H : Nat} {t : StM} {ps fs : List Nat} {ov : Value} {R : Nat} {qv gv lv lv' : Value} {ix : List Nat} {i : Nat} {o : ObM} {ob : Obj} (h : SwW w wr F H t ps fs ov R qv gv lv ix) (hi : getM t.obs ((i : Int) + 1) = some o) (hn : i ∉ ix) (hc : o.col ≠ 1) (hg : ((wr.setCell ⟨ps.getD i 0, 2, none⟩ (.int .i64 0)).alloc ob).grownBy w3 lv.ownBlock) (ho : w3.ownsRow w.heap.size 67 1 lv' ((leftL t.obs ix).length + 1) (ptrsP ps (leftL t.obs ix) ++ [.pointer (some ⟨ps.getD i 0, 0, none⟩)])) (ha : lv'.ownBlock = lv.ownBlock ∨ lv'.ownBlock = some ((wr.setCell ⟨ps.getD i 0, 2, none⟩ (.int .i64 0)).alloc ob).heap.size) : SwW w w3 F H t ps fs ov R qv gv lv' (ix ++ [i]) := by
  obtain ⟨hs, p1, p2, p3⟩ := h.clear hi hn hc
  obtain ⟨_, h2, _⟩ := getM_some.1 hi
  rw [show ((i : Int) + 1).toNat - 1 = i by omega] at h2
  obtain ⟨W, hW⟩ : ∃ W, W = wr.setCell ⟨ps.getD i 0, 2, none⟩ (.int .i64 0) := ⟨_, rfl⟩
  have hsz : W.heap.size = wr.heap.size := by rw [hW]; simp [World.setCell]
  have hkW : ∀ k, k ≠ ps.getD i 0 → W.heap[k]? = wr.heap[k]? := fun k hk => by rw [hW]; exact set_other _ hk
  rw [← hW] at hs hg ha
  have s1 : (W.alloc ob).heap.size = W.heap.size + 1 := World.size_alloc _ _
  have s2 := hg.size
  have kp : ∀ k, k < W.heap.size → lv.ownBlock ≠ some k → w3.heap[k]? = W.heap[k]? := fun k hk hq => by
    rw [hg.block k (by omega) (fun e => hq e.symm), Below.heap_alloc _ _ _ hk]
  have hnew : ∀ k, k < W.heap.size → lv.ownBlock ≠ some k → lv'.ownBlock ≠ some k := fun k hk hq q => by
    rcases ha with e | e
    · exact hq (e.symm.trans q)
    · rw [e] at q
      injection q with q
      omega
  obtain ⟨e1, e2⟩ := leftL_snoc (ix := ix) h2 hc
  refine ⟨?_, ?_, ?_, ?_, h.fl⟩
  · refine hs.mv (fun k hk hn => ⟨kp k hk (fun q => hn (.inr (.inr q))), fun q => ?_⟩) fun k hk => ?_
    · rcases q with q | q | q
      · exact hn (.inl q)
      · exact hn (.inr (.inl q))
      · exact hnew k hk (fun q => hn (.inr (.inr q))) q
    · rcases hk with q | q | q
      · have := h.fl k q
        have := h.kp.size
        omega
      · have := (h.ne.1 q).2.2
        omega
      · exact (World.ownsRow.lt ho k q).2
  · rw [e2]
    refine own_kept h.go fun k q => ?_
    rw [kp k (by have := (h.ne.1 q).2.2; omega) (h.ne.1 q).2.1]
    exact hkW k (fun e => p2 (e ▸ q))
  · rw [e1]
    have : ptrsP ps (leftL t.obs ix ++ [i]) = ptrsP ps (leftL t.obs ix) ++ [.pointer (some ⟨ps.getD i 0, 0, none⟩)] := by simp [ptrsP]
    rw [this, List.length_append]
    exact ho
  · refine h.kp.trans ⟨hg.os.trans (by rw [hW]; rfl), hg.tape.trans (by rw [hW]; rfl), hg.output.trans (by rw [hW]; rfl), by omega, fun k hk => ?_⟩
    have := h.fl k hk
    have := h.kp.size
    rw [kp k (by omega) (fun q => (h.ne.2 q).1 hk)]
    exact hkW k (fun e => p1 (e ▸ hk))
/-- How it ends. -/
theorem SwW.done {w wr : World} {F : Nat → Prop} {H : Nat} {t : StM} {ps fs : List Nat} {ov : Value} {R : Nat} {qv gv lv : Value} (h : SwW w wr F H t ps fs ov R qv gv lv (therL t.obs)) : SpW ((wr.setCell ⟨H, 1, none⟩ lv).setCell ⟨H, 3, none⟩ (.bool false)) (fun k => F k ∨ gv.ownBlock = some k) H { t with obs := sweepM t.obs, cyc := false } ps fs lv R qv ∧ OutAt w.heap.size ((wr.setCell ⟨H, 1, none⟩ lv).setCell ⟨H, 3, none⟩ (.bool false)) gv (goneM t.obs) ∧ Keep F w ((wr.setCell ⟨H, 1, none⟩ lv).setCell ⟨H, 3, none⟩ (.bool false)) := by
  have hl := SpW.left (F := fun k => F k ∨ gv.ownBlock = some k) h.sp (own_mono h.le (Nat.zero_le _)) (fun k q => by
    rcases q with q | q
    · exact .inl q
    · exact .inr (.inl q)) (fun k q r => by
    rcases r with r | r
    · exact (h.ne.2 q).1 r
    · exact (h.ne.2 q).2.1 r)
  refine ⟨hl.flag false, ?_, ?_⟩
  · rw [← goneL_all]
    refine own_kept h.go fun k q => ?_
    obtain ⟨cur, b⟩ := own_tag h.go q
    have hk : k ≠ H := tag_ne b h.sp.blk (by decide)
    rw [set_other _ hk, set_other _ hk]
  · exact (h.kp.setCell (p := ⟨H, 1, none⟩) (fun q => h.sp.lo.1 (.inl q)) _).setCell (p := ⟨H, 3, none⟩) (fun q => h.sp.lo.1 (.inl q)) _
theorem drained_steps {P : StM} {k : Nat} {t : StM} (h : StM.steps 400 P = StM.steps k t) (hr : t.row = []) : StM.steps 400 P = t := by rw [h, steps_nil hr]
end Go.Proofs.Ytcigiilhlealdaa
