/- The specification's heap: a cycle ends. -/
import Derived.Test.YtcigiilhlealdaaKsE
import Derived.Deep.LoopGhost
namespace Go.Proofs.Ytcigiilhlealdaa
set_option linter.unusedVariables false
open Go.ChangeShapes Go.WideShapes Go.ChangeAt Go.RowKit

theorem ObsAt.mv {w w' : World} {F G : Nat → Prop} {ps fs : List Nat} {obs : List ObM} (h : ObsAt w F ps fs obs) (hk : ∀ k, k ∈ ps ∨ k ∈ fs → w'.heap[k]? = w.heap[k]? ∧ ¬ G k) : ObsAt w' G ps fs obs := by
  refine ⟨h.lp, h.lf, fun i o ho => ?_, h.nd, ⟨fun p hp => (hk p (.inl hp)).2, fun f hf => (hk f (.inr hf)).2⟩⟩
  have a := h.at_ i o ho
  have hi := (List.getElem?_eq_some_iff.1 ho).1
  have hp : ps.getD i 0 ∈ ps := by rw [List.getD_eq_getElem?_getD, List.getElem?_eq_getElem (by rw [h.lp]; exact hi)]; exact List.getElem_mem _
  have hf : fs.getD i 0 ∈ fs := by rw [List.getD_eq_getElem?_getD, List.getElem?_eq_getElem (by rw [h.lf]; exact hi)]; exact List.getElem_mem _
  exact ⟨(hk _ (.inl hp)).1.trans a.blk, (hk _ (.inr hf)).1.trans a.row⟩
theorem ObsAt.lt {w : World} {F : Nat → Prop} {ps fs : List Nat} {obs : List ObM} (h : ObsAt w F ps fs obs) {k : Nat} (hk : k ∈ ps ∨ k ∈ fs) : k < w.heap.size ∧ ¬ F k := by
  rcases hk with hk | hk
  · refine ⟨?_, h.lo.1 k hk⟩
    obtain ⟨i, hi, e⟩ := List.mem_iff_getElem.1 hk
    have hi2 : i < obs.length := by rw [← h.lp]; exact hi
    have b := (h.at_ i _ (List.getElem?_eq_getElem hi2)).blk
    rw [List.getD_eq_getElem?_getD, List.getElem?_eq_getElem hi] at b
    rw [← e]
    exact lt_of b
  · refine ⟨?_, h.lo.2 k hk⟩
    obtain ⟨i, hi, e⟩ := List.mem_iff_getElem.1 hk
    have hi2 : i < obs.length := by rw [← h.lf]; exact hi
    have b := (h.at_ i _ (List.getElem?_eq_getElem hi2)).row
    rw [List.getD_eq_getElem?_getD, List.getElem?_eq_getElem hi] at b
    rw [← e]
    exact lt_of b
/-- What others have changes; what they have is another set. -/
theorem SpW.mv {w w' : World} {F G : Nat → Prop} {H R : Nat} {s : StM} {ps fs : List Nat} {ov qv : Value} (h : SpW w F H s ps fs ov R qv) (hk : ∀ k, k < w.heap.size → ¬ F k → w'.heap[k]? = w.heap[k]? ∧ ¬ G k) (hG : ∀ k, G k → k < w'.heap.size) : SpW w' G H s ps fs ov R qv := by
  have ho : ∀ k, ov.ownBlock = some k → w'.heap[k]? = w.heap[k]? ∧ ¬ G k := fun k q => hk k (World.ownsRow.lt h.ow k q).2 (h.fo.1 k q)
  have hq : ∀ k, qv.ownBlock = some k → w'.heap[k]? = w.heap[k]? ∧ ¬ G k := fun k q => hk k (World.ownsRow.lt h.ro k q).2 (h.fo.2 k q)
  refine ⟨h.ob.mv fun k q => hk k (h.ob.lt q).1 (h.ob.lt q).2, (hk _ (lt_of h.blk) h.lo.1).1.trans h.blk, own_kept h.ow fun k q => (ho k q).1, (hk _ (lt_of h.rt) h.lo.2.1).1.trans h.rt, own_kept h.ro fun k q => (hq k q).1, h.n1, h.n2, h.n3, ⟨(hk _ (lt_of h.blk) h.lo.1).2, (hk _ (lt_of h.rt) h.lo.2.1).2, hG⟩, ⟨fun k q => (ho k q).2, fun k q => (hq k q).2⟩⟩
def whiteAt (obs : List ObM) (i : Nat) : Bool := ((obs[i]?).map fun o => decide (o.col = 1)).getD false
theorem whiteAt_of {obs : List ObM} {i : Nat} {o : ObM} (h : obs[i]? = some o) : whiteAt obs i = decide (o.col = 1) := by simp [whiteAt, h]
def leftL (obs : List ObM) (ix : List Nat) : List Nat := ix.filter fun i => !whiteAt obs i
def goneL (obs : List ObM) (ix : List Nat) : List Int := (ix.filter fun i => whiteAt obs i).map fun (i : Nat) => (i : Int) + 1
theorem goneL_all (obs : List ObM) : goneL obs (therL obs) = goneM obs := by
  unfold goneL goneM therL
  rw [List.filter_filter]
  congr 1
  refine List.filter_congr fun i _ => ?_
  unfold whiteAt
  cases obs[i]? with
  | none => rfl
  | some o => simp [Bool.and_comm]
def sweepK (obs : List ObM) (ix : List Nat) : List ObM := obs.mapIdx fun i o => if i ∈ ix ∧ o.col ≠ 1 then { o with col := 0 } else o
theorem sweepK_get (obs : List ObM) (ix : List Nat) (i : Nat) : (sweepK obs ix)[i]? = (obs[i]?).map fun o => if i ∈ ix ∧ o.col ≠ 1 then { o with col := 0 } else o := by
  unfold sweepK
  rw [List.getElem?_mapIdx]
theorem sweepK_length (obs : List ObM) (ix : List Nat) : (sweepK obs ix).length = obs.length := by simp [sweepK]
theorem sweepK_nil (obs : List ObM) : sweepK obs [] = obs := by
  refine List.ext_getElem? fun i => ?_
  rw [sweepK_get]
  cases obs[i]? <;> simp
theorem sweepK_white {obs : List ObM} {ix : List Nat} {i : Nat} {o : ObM} (h : obs[i]? = some o) (hc : o.col = 1) : sweepK obs (ix ++ [i]) = sweepK obs ix := by
  refine List.ext_getElem? fun j => ?_
  rw [sweepK_get, sweepK_get]
  by_cases e : j = i
  · subst e
    rw [h]
    simp [hc]
  · cases obs[j]? <;> simp [e]
theorem sweepK_left {obs : List ObM} {ix : List Nat} {i : Nat} {o : ObM} (h : obs[i]? = some o) (hc : o.col ≠ 1) : sweepK obs (ix ++ [i]) = setCol (sweepK obs ix) ((i : Int) + 1) 0 := by
  refine List.ext_getElem? fun j => ?_
  rw [setCol, List.getElem?_modify, sweepK_get, sweepK_get, show ((i : Int) + 1).toNat - 1 = i by omega]
  by_cases e : j = i
  · subst e
    rw [h]
    by_cases q : j ∈ ix <;> simp [hc, q]
  · have e' : ¬ i = j := fun q => e q.symm
    cases obs[j]? with
    | none => simp
    | some x => by_cases q : j ∈ ix <;> simp [e, e', q]
theorem sweepK_ther (obs : List ObM) (ix : List Nat) : therL (sweepK obs ix) = therL obs := by
  unfold therL
  rw [sweepK_length]
  refine List.filter_congr fun i _ => ?_
  rw [sweepK_get]
  cases obs[i]? with
  | none => rfl
  | some o => by_cases q : i ∈ ix ∧ o.col ≠ 1 <;> simp [q]
theorem therL_nodup (obs : List ObM) : (therL obs).Nodup := List.Pairwise.filter _ List.nodup_range
theorem nodup_take {l : List Nat} (h : l.Nodup) {m : Nat} (hm : m < l.length) : l[m] ∉ l.take m := fun q => by
  obtain ⟨j, hj, e⟩ := List.mem_iff_getElem.1 q
  have hj2 : j < m := by simp at hj; omega
  rw [List.getElem_take] at e
  have := (List.pairwise_iff_getElem.1 h) j m (by omega) hm hj2
  exact this e
theorem sweepK_cur {obs : List ObM} {ix : List Nat} {i : Nat} {o : ObM} (h : getM obs ((i : Int) + 1) = some o) (hi : i ∉ ix) : getM (sweepK obs ix) ((i : Int) + 1) = some o := by
  obtain ⟨h1, h2, h3⟩ := getM_some.1 h
  refine getM_some.2 ⟨h1, ?_, h3⟩
  rw [show ((i : Int) + 1).toNat - 1 = i by omega] at h2 ⊢
  rw [sweepK_get, h2]
  simp [hi]
theorem therL_sweep (obs : List ObM) : therL (sweepM obs) = leftL obs (therL obs) := by
  unfold leftL therL
  rw [List.filter_filter, sweepM_length]
  refine List.filter_congr fun i _ => ?_
  unfold whiteAt sweepM
  rw [List.getElem?_map]
  cases obs[i]? with
  | none => rfl
  | some o =>
    cases ht : o.there <;> by_cases hc : o.col = 1 <;> simp [ht, hc]
theorem sweepK_sweep {obs : List ObM} {i : Nat} {o : ObM} (h : (sweepM obs)[i]? = some o) : ∃ o', (sweepK obs (therL obs))[i]? = some o' ∧ o'.flds = o.flds ∧ o'.col = o.col := by
  unfold sweepM at h
  rw [List.getElem?_map] at h
  rw [sweepK_get]
  cases e : obs[i]? with
  | none => rw [e] at h; simp at h
  | some x =>
    rw [e] at h
    have hx : i ∈ therL obs ↔ x.there = true := by
      rw [mem_therL]
      constructor
      · rintro ⟨y, h1, h2⟩
        rw [e] at h1
        injection h1 with h1
        subst h1
        exact h2
      · exact fun q => ⟨x, e, q⟩
    simp only [Option.map_some, Option.some.injEq] at h ⊢
    subst h
    refine ⟨_, rfl, ?_, ?_⟩ <;> (cases ht : x.there <;> by_cases hc : x.col = 1 <;> simp [ht, hc, hx])
/-- The objects that are left become the heap's. -/
theorem SpW.left {w : World} {F G : Nat → Prop} {H R : Nat} {s : StM} {ps fs : List Nat} {ov qv lv : Value} (h : SpW w G H { s with obs := sweepK s.obs (therL s.obs) } ps fs ov R qv) (hl : w.ownsRow 0 67 1 lv (leftL s.obs (therL s.obs)).length (ptrsP ps (leftL s.obs (therL s.obs)))) (hF : ∀ k, F k → G k) (hlF : ∀ k, lv.ownBlock = some k → ¬ F k) : SpW (w.setCell ⟨H, 1, none⟩ lv) F H { s with obs := sweepM s.obs } ps fs lv R qv := by
  have hne : ∀ k, k ∈ ps ∨ k ∈ fs → k ≠ H := fun k hk e => by
    rcases hk with hk | hk
    · obtain ⟨i, hi, e2⟩ := List.mem_iff_getElem.1 hk
      have hi2 : i < (sweepK s.obs (therL s.obs)).length := by have q : ps.length = (sweepK s.obs (therL s.obs)).length := h.ob.lp; omega
      have b := (h.ob.at_ i _ (List.getElem?_eq_getElem hi2)).blk
      rw [List.getD_eq_getElem?_getD, List.getElem?_eq_getElem hi] at b
      exact tag_ne b h.blk (by decide) (e2.trans e)
    · obtain ⟨i, hi, e2⟩ := List.mem_iff_getElem.1 hk
      have hi2 : i < (sweepK s.obs (therL s.obs)).length := by have q : fs.length = (sweepK s.obs (therL s.obs)).length := h.ob.lf; omega
      have b := (h.ob.at_ i _ (List.getElem?_eq_getElem hi2)).row
      rw [List.getD_eq_getElem?_getD, List.getElem?_eq_getElem hi] at b
      exact tag_ne b h.blk (by decide) (e2.trans e)
  have hob := h.ob.mv (w' := w.setCell ⟨H, 1, none⟩ lv) (G := F) fun k hk => ⟨set_other _ (hne k hk), fun q => (h.ob.lt hk).2 (hF k q)⟩
  refine ⟨⟨by rw [hob.lp, sweepK_length, sweepM_length], by rw [hob.lf, sweepK_length, sweepM_length], fun i o ho => ?_, hob.nd, hob.lo⟩, ?_, ?_, ?_, ?_, h.n1, h.n2, h.n3, ⟨fun q => h.lo.1 (hF _ q), fun q => h.lo.2.1 (hF _ q), fun k q => by have := h.lo.2.2 k (hF k q); simpa [World.setCell] using this⟩, ⟨hlF, fun k q r => h.fo.2 k q (hF k r)⟩⟩
  · obtain ⟨o', h1, h2, h3⟩ := sweepK_sweep ho
    have a := hob.at_ i o' h1
    refine ⟨?_, ?_⟩
    · rw [← h2, ← h3]; exact a.blk
    · rw [← h2]; exact a.row
  · have hl2 : (sweepM s.obs).length = (sweepK s.obs (therL s.obs)).length := by rw [sweepK_length, sweepM_length]
    show _ = some (Obj.cells #[_, _, _, _, _, .int .i64 ((sweepM s.obs).length : Nat)] 66 (0, 0))
    rw [hl2, set_same _ h.blk]
    rfl
  · show World.ownsRow _ _ _ _ _ (therL (sweepM s.obs)).length (ptrsP ps (therL (sweepM s.obs)))
    rw [therL_sweep]
    exact own_kept hl fun k q => by
      obtain ⟨cur, b⟩ := own_tag hl q
      exact set_other _ (tag_ne b h.blk (by decide))
  · rw [set_other _ (tag_ne h.rt h.blk (by decide))]
    exact h.rt
  · exact own_kept h.ro fun k q => by
      obtain ⟨cur, b⟩ := own_tag h.ro q
      exact set_other _ (tag_ne b h.blk (by decide))
end Go.Proofs.Ytcigiilhlealdaa
