/- The specification's heap: a cycle begins. -/
import Derived.Test.YtchcdlelaklnnaaKsD
import Derived.Deep.LoopGhost
namespace Go.Proofs.Ytchcdlelaklnnaa
set_option linter.unusedVariables false
open Go.ChangeShapes Go.WideShapes Go.ChangeAt Go.RowKit

/-- The first of those that are there, painted. -/
def paintK (obs : List ObM) (ix : List Nat) (c : Int) : List ObM := ix.foldl (fun os (i : Nat) => setCol os ((i : Int) + 1) c) obs
theorem paintK_snoc (obs : List ObM) (ix : List Nat) (i : Nat) (c : Int) : paintK obs (ix ++ [i]) c = setCol (paintK obs ix c) ((i : Int) + 1) c := by simp [paintK, List.foldl_append]
theorem paintK_length (obs : List ObM) (c : Int) : ∀ ix : List Nat, (paintK obs ix c).length = obs.length := by
  intro ix
  induction ix generalizing obs with
  | nil => rfl
  | cons i ix ih =>
    show (paintK (setCol obs ((i : Int) + 1) c) ix c).length = _
    rw [ih, setCol_length]
theorem paintK_get (c : Int) : ∀ (ix : List Nat) (obs : List ObM) (i : Nat), (paintK obs ix c)[i]? = (obs[i]?).map fun o => if i ∈ ix then { o with col := c } else o
  | [], obs, i => by simp [paintK]
  | k :: ix, obs, i => by
    show (paintK (setCol obs ((k : Int) + 1) c) ix c)[i]? = _
    rw [paintK_get c ix, setCol, List.getElem?_modify, show ((k : Int) + 1).toNat - 1 = k by omega]
    cases obs[i]? with
    | none => rfl
    | some o =>
      by_cases e : k = i
      · subst e
        by_cases h : k ∈ ix <;> simp [h]
      · have e' : ¬ i = k := fun q => e q.symm
        by_cases h : i ∈ ix <;> simp [h, e, e']
theorem paintK_all (obs : List ObM) (c : Int) : paintK obs (therL obs) c = paintM obs c := by
  refine List.ext_getElem? fun i => ?_
  rw [paintK_get, paintM, List.getElem?_map]
  cases h : obs[i]? with
  | none => rfl
  | some o =>
    by_cases ht : o.there = true
    · have : i ∈ therL obs := mem_therL.2 ⟨o, h, ht⟩
      simp [this, ht]
    · have : i ∉ therL obs := fun q => by
        obtain ⟨o', h1, h2⟩ := mem_therL.1 q
        rw [h] at h1
        injection h1 with h1
        subst h1
        exact ht h2
      simp [this, ht]
theorem therL_paintK (obs : List ObM) (c : Int) : ∀ ix : List Nat, therL (paintK obs ix c) = therL obs := by
  intro ix
  induction ix generalizing obs with
  | nil => rfl
  | cons i ix ih =>
    show therL (paintK (setCol obs ((i : Int) + 1) c) ix c) = _
    rw [ih, therL_setCol]
/-- The cycle's flag. -/
theorem SpW.flag {w : World} {F : Nat → Prop} {H R : Nat} {s : StM} {ps fs : List Nat} {ov qv : Value} (h : SpW w F H s ps fs ov R qv) (b : Bool) : SpW (w.setCell ⟨H, 3, none⟩ (.bool b)) F H { s with cyc := b } ps fs ov R qv := by
  refine ⟨h.ob.kept fun k cs t a q => set_other _ (tag_ne a h.blk (by rcases q with q | q; rw [q]; decide; rw [q.1]; decide)), ?_, own_kept h.ow fun k q => ?_, ?_, own_kept h.ro fun k q => ?_, h.n1, h.n2, h.n3, ⟨h.lo.1, h.lo.2.1, by have := h.lo.2.2; simpa [World.setCell] using this⟩, h.fo⟩
  · rw [set_same _ h.blk]
    rfl
  · obtain ⟨cur, a⟩ := own_tag h.ow q
    exact set_other _ (tag_ne a h.blk (by decide))
  · rw [set_other _ (tag_ne h.rt h.blk (by decide))]
    exact h.rt
  · obtain ⟨cur, a⟩ := own_tag h.ro q
    exact set_other _ (tag_ne a h.blk (by decide))
theorem getM_paintK {obs : List ObM} {ix : List Nat} {c z : Int} {o : ObM} (h : getM obs z = some o) : ∃ o', getM (paintK obs ix c) z = some o' := by
  obtain ⟨h1, h2, h3⟩ := getM_some.1 h
  refine ⟨if z.toNat - 1 ∈ ix then { o with col := c } else o, getM_some.2 ⟨h1, by rw [paintK_get, h2]; rfl, ?_⟩⟩
  split <;> exact h3
set_option maxRecDepth 100000 in
set_option maxHeartbeats 1000000 in
theorem begin_calls (w : World) (F : Nat → Prop) (H : Nat) (s : StM) (ps fs : List Nat) (ov : Value) (R : Nat) (qv : Value) (h : SpW w F H s ps fs ov R qv) (hi : InvM s) (hc : s.cyc = false) (hl : s.obs.length ≤ 400) :
    Calls Try.prog 45 #[.pointer (some ⟨H, 0, none⟩)] w fun e w' => e = .returned (.tuple #[]) ∧ (∃ qv', SpW w' F H s.begin ps fs ov R qv') ∧ Keep F w w' := by
  have hH : Hid (SpW w F H s ps fs ov R qv) := h
  have hiH : Hid (InvM ({ s with obs := paintM s.obs 1, cyc := true } : StM)) := by
    have := hi.rest hc
    refine ⟨hi.rl, fun r hr => by show 0 ≤ r ∧ r ≤ ((paintM s.obs 1).length : Int); rw [paintM_length]; exact hi.rr r hr, fun o ho f hf => ?_, hi.nd, fun z => ?_, (fun q => by cases q), fun _ z o ho => ?_⟩
    · show 0 ≤ f ∧ f ≤ ((paintM s.obs 1).length : Int)
      rw [paintM_length]
      obtain ⟨x, hx, e⟩ := paintM_flds ho
      rw [e] at hf
      exact hi.fr x hx f hf
    · show z ∈ s.row ↔ ∃ o, getM (paintM s.obs 1) z = some o ∧ o.col = 2
      rw [this, getM_paint]
      constructor
      · intro q; simp at q
      · rintro ⟨o, h1, h2⟩
        cases hg : getM s.obs z with
        | none => rw [hg] at h1; cases h1
        | some x => rw [hg] at h1; simp at h1; subst h1; simp at h2
    · have ho : getM (paintM s.obs 1) z = some o := ho
      rw [getM_paint] at ho
      cases hg : getM s.obs z with
      | none => rw [hg] at ho; cases ho
      | some x => rw [hg] at ho; simp at ho; subst ho; exact .inl rfl
  have hll : (therL s.obs).length ≤ 400 := Nat.le_trans (therL_len _) hl
  have hll' : ((therL s.obs).length : Int) ≤ 400 := by omega
  obtain ⟨oa, oc, rfl⟩ := own_slice h.ow
  clear h hi hc
  go_enter Try.func45, Try.ntmps45
  go_wp2
  go_loopw [2] (fun i wr => ∃ m : Nat, m ≤ (therL s.obs).length ∧ i = .int .i64 m ∧ Hid (SpW wr F H { s with obs := paintK s.obs ((therL s.obs).take m) 1 } ps fs (.slice oa (therL s.obs).length oc) R qv) ∧ Hid (Keep F w wr)) (fun i _ => (therL s.obs).length - (intOf i).toNat)
  case atStart => exact ⟨0, Nat.zero_le _, rfl, by simpa [paintK] using hH, Keep.refl _ _⟩
  case round =>
    obtain ⟨m, hm, rfl, hS, hB⟩ := hrel
    have hm0 : (0 : Int) ≤ m := by omega
    have k1 : wr.cell? ⟨H, 1, none⟩ = some (.slice oa (therL s.obs).length oc) := cell_of hS.out.blk rfl
    by_cases hlt : m < (therL s.obs).length
    · have hlt' : (m : Int) < ((therL s.obs).length : Int) := by omega
      obtain ⟨g, gc, e⟩ := own_some hS.out.ow (by rw [therL_paintK]; omega)
      have hrow := hS.out.ow
      rw [show ({ s with obs := paintK s.obs ((therL s.obs).take m) 1 } : StM).obs = paintK s.obs ((therL s.obs).take m) 1 from rfl, therL_paintK] at hrow e
      injection e with e1 e2 e3
      subst e1
      obtain ⟨o, hg, _⟩ := therL_get (List.getElem_mem hlt)
      obtain ⟨o', hg'⟩ := getM_paintK (ix := (therL s.obs).take m) (c := 1) hg
      have hg2 : getM ({ s with obs := paintK s.obs ((therL s.obs).take m) 1 } : StM).obs ((((therL s.obs)[m] : Nat) : Int) + 1) = some o' := hg'
      have hob := (hS.out.ob.get hg2).blk
      have hN := hS.out.colour hg2 1
      have hpB : ¬ F (ps.getD ((((therL s.obs)[m] : Nat) : Int) + 1).toNat.pred 0) := by
        obtain ⟨a1, a2, _⟩ := getM_some.1 hg2
        have hi := (List.getElem?_eq_some_iff.1 a2).1
        refine hS.out.ob.lo.1 _ ?_
        rw [Nat.pred_eq_sub_one, List.getD_eq_getElem?_getD, List.getElem?_eq_getElem (by rw [hS.out.ob.lp]; exact hi)]
        exact List.getElem_mem _
      rw [Nat.pred_eq_sub_one] at hpB
      rw [show ((((therL s.obs)[m] : Nat) : Int) + 1).toNat - 1 = (therL s.obs)[m] by omega] at hob hN hpB
      have kp : wr.cell? ⟨g, m, none⟩ = some (.pointer (some ⟨ps.getD ((therL s.obs)[m]) 0, 0, none⟩)) := by
        rw [World.ownsRow.cellAt hrow m (by omega)]
        simp [ptrsP, hlt]
      have hN2 : Hid (SpW (wr.setCell ⟨ps.getD ((therL s.obs)[m]) 0, 2, none⟩ (.int .i64 1)) F H { s with obs := paintK s.obs ((therL s.obs).take (m + 1)) 1 } ps fs (.slice (some ⟨g, 0, none⟩) (therL s.obs).length oc) R qv) := by
        have e9 : (therL s.obs).take (m + 1) = (therL s.obs).take m ++ [(therL s.obs)[m]] := by rw [List.take_add_one, List.getElem?_eq_getElem hlt]; rfl
        rw [e9, paintK_snoc]
        exact hN
      have hB2 : Hid (Keep F w (wr.setCell ⟨ps.getD ((therL s.obs)[m]) 0, 2, none⟩ (.int .i64 1))) := hB.out.setCell (p := ⟨_, 2, none⟩) hpB _
      have kc : wr.cell? ⟨ps.getD ((therL s.obs)[m]) 0, 2, none⟩ = some (.int .i64 o'.col) := cell_of hob rfl
      have kz : wr.frozen? ⟨ps.getD ((therL s.obs)[m]) 0, 2, none⟩ = false := free_of hob
      generalize ps.getD ((therL s.obs)[m]) 0 = pp at kp hN2 hB2 kc kz
      clear hS hB hN hob hg2 hg hg' hrow e2 e3 hpB
      go_wp2
      go_roundw
      case rel => exact ⟨m + 1, by omega, by go_num, hN2, hB2⟩
      case measure => simp [intOf]; omega
    · have hge : ¬ ((m : Int) < ((therL s.obs).length : Int)) := by omega
      have hmE : m = (therL s.obs).length := by omega
      have hP : Hid (SpW wr F H { s with obs := paintM s.obs 1 } ps fs (.slice oa (therL s.obs).length oc) R qv) := by
        have h1 := hS.out
        rw [hmE, List.take_length, paintK_all] at h1
        exact h1
      have hF : Hid (SpW (wr.setCell ⟨H, 3, none⟩ (.bool true)) F H { s with obs := paintM s.obs 1, cyc := true } ps fs (.slice oa (therL s.obs).length oc) R qv) := hP.out.flag true
      have kc : wr.cell? ⟨H, 3, none⟩ = some (.bool s.cyc) := cell_of hP.out.blk rfl
      have kz : wr.frozen? ⟨H, 3, none⟩ = false := free_of hP.out.blk
      have hBf : Hid (Keep F w (wr.setCell ⟨H, 3, none⟩ (.bool true))) := hB.out.setCell (p := ⟨H, 3, none⟩) hP.out.lo.1 _
      have hro : Hid (Calls Try.prog 68 #[.pointer (some ⟨H, 0, none⟩)] (wr.setCell ⟨H, 3, none⟩ (.bool true)) fun e w' => e = .returned (.tuple #[]) ∧ (∃ qv', SpW w' F H s.begin ps fs (.slice oa (therL s.obs).length oc) R qv') ∧ Keep F (wr.setCell ⟨H, 3, none⟩ (.bool true)) w') := roots_calls _ F H _ ps fs _ R qv hF.out hiH.out (by show (paintM s.obs 1).length ≤ 400; rw [paintM_length]; exact hl)
      clear hS hP hF hmE hB
      go_wp2_with (go_at_call 68; refine (show Calls _ _ _ _ _ from hro.out).mono ?_; rintro e w1 ⟨rfl, hS1, hB1⟩; have hS1H : Hid (∃ qv', SpW w1 F H s.begin ps fs (.slice oa (therL s.obs).length oc) R qv') := hS1; have hB2 : Hid (Keep F w w1) := hBf.out.trans hB1; clear hS1 hB1)
      first | (refine bodyPost_ret (results_none rfl _ _ _) rfl ?_) | go_end0
      exact ⟨rfl, hS1H.out, hB2.out⟩
end Go.Proofs.Ytchcdlelaklnnaa

/- The specification's heap: a cycle ends. -/
namespace Go.Proofs.Ytchcdlelaklnnaa
set_option linter.unusedVariables false
open Go.ChangeShapes Go.WideShapes Go.ChangeAt Go.RowKit

theorem ObsAt.mv {w w' : World} {F G : Nat → Prop} {ps fs : List Nat} {obs : List ObM} (h : ObsAt w F ps fs obs) (hk : ∀ k, k ∈ ps ∨ k ∈ fs → w'.heap[k]? = w.heap[k]? ∧ ¬ G k) : ObsAt w' G ps fs obs := by
  refine ⟨h.lp, h.lf, fun i o ho => ?_, h.nd, ⟨fun p hp => (hk p (.inl hp)).2, fun f hf => (hk f (.inr hf)).2⟩⟩
  have a := h.at_ i o ho
  have hi := (List.getElem?_eq_some_iff.1 ho).1
  have hp : ps.getD i 0 ∈ ps := by rw [List.getD_eq_getElem?_getD, List.getElem?_eq_getElem (by rw [h.lp]; exact hi)]; exact List.getElem_mem _
  have hf : fs.getD i 0 ∈ fs := by rw [List.getD_eq_getElem?_getD, List.getElem?_eq_getElem (by rw [h.lf]; exact hi)]; exact List.getElem_mem _
  exact ⟨(hk _ (.inl hp)).1.trans a.blk, (hk _ (.inr hf)).1.trans a.row⟩
theorem ObsAt.lt {w : World} {F : Nat → Prop} {ps fs : List Nat} {obs : List ObM} (h : ObsAt w F ps fs obs) {k : Nat} (hk : k ∈ ps ∨ k ∈ fs) : k < w.heap.size ∧ ¬ F k := by
  rcases hk with hk | hk
  · refine ⟨?_, h.lo.1 k hk⟩
    obtain ⟨i, hi, e⟩ := List.mem_iff_getElem.1 hk
    have hi2 : i < obs.length := by rw [← h.lp]; exact hi
    have b := (h.at_ i _ (List.getElem?_eq_getElem hi2)).blk
    rw [List.getD_eq_getElem?_getD, List.getElem?_eq_getElem hi] at b
    rw [← e]
    exact lt_of b
  · refine ⟨?_, h.lo.2 k hk⟩
    obtain ⟨i, hi, e⟩ := List.mem_iff_getElem.1 hk
    have hi2 : i < obs.length := by rw [← h.lf]; exact hi
    have b := (h.at_ i _ (List.getElem?_eq_getElem hi2)).row
    rw [List.getD_eq_getElem?_getD, List.getElem?_eq_getElem hi] at b
    rw [← e]
    exact lt_of b
/-- What others have changes; what they have is another set. -/
theorem SpW.mv {w w' : World} {F G : Nat → Prop} {H R : Nat} {s : StM} {ps fs : List Nat} {ov qv : Value} (h : SpW w F H s ps fs ov R qv) (hk : ∀ k, k < w.heap.size → ¬ F k → w'.heap[k]? = w.heap[k]? ∧ ¬ G k) (hG : ∀ k, G k → k < w'.heap.size) : SpW w' G H s ps fs ov R qv := by
  have ho : ∀ k, ov.ownBlock = some k → w'.heap[k]? = w.heap[k]? ∧ ¬ G k := fun k q => hk k (World.ownsRow.lt h.ow k q).2 (h.fo.1 k q)
  have hq : ∀ k, qv.ownBlock = some k → w'.heap[k]? = w.heap[k]? ∧ ¬ G k := fun k q => hk k (World.ownsRow.lt h.ro k q).2 (h.fo.2 k q)
  refine ⟨h.ob.mv fun k q => hk k (h.ob.lt q).1 (h.ob.lt q).2, (hk _ (lt_of h.blk) h.lo.1).1.trans h.blk, own_kept h.ow fun k q => (ho k q).1, (hk _ (lt_of h.rt) h.lo.2.1).1.trans h.rt, own_kept h.ro fun k q => (hq k q).1, h.n1, h.n2, h.n3, ⟨(hk _ (lt_of h.blk) h.lo.1).2, (hk _ (lt_of h.rt) h.lo.2.1).2, hG⟩, ⟨fun k q => (ho k q).2, fun k q => (hq k q).2⟩⟩
def whiteAt (obs : List ObM) (i : Nat) : Bool := ((obs[i]?).map fun o => decide (o.col = 1)).getD false
theorem whiteAt_of {obs : List ObM} {i : Nat} {o : ObM} (h : obs[i]? = some o) : whiteAt obs i = decide (o.col = 1) := by simp [whiteAt, h]
def leftL (obs : List ObM) (ix : List Nat) : List Nat := ix.filter fun i => !whiteAt obs i
def goneL (obs : List ObM) (ix : List Nat) : List Int := (ix.filter fun i => whiteAt obs i).map fun (i : Nat) => (i : Int) + 1
theorem goneL_all (obs : List ObM) : goneL obs (therL obs) = goneM obs := by
  unfold goneL goneM therL
  rw [List.filter_filter]
  congr 1
  refine List.filter_congr fun i _ => ?_
  unfold whiteAt
  cases obs[i]? with
  | none => rfl
  | some o => simp [Bool.and_comm]
def sweepK (obs : List ObM) (ix : List Nat) : List ObM := obs.mapIdx fun i o => if i ∈ ix ∧ o.col ≠ 1 then { o with col := 0 } else o
theorem sweepK_get (obs : List ObM) (ix : List Nat) (i : Nat) : (sweepK obs ix)[i]? = (obs[i]?).map fun o => if i ∈ ix ∧ o.col ≠ 1 then { o with col := 0 } else o := by
  unfold sweepK
  rw [List.getElem?_mapIdx]
theorem sweepK_length (obs : List ObM) (ix : List Nat) : (sweepK obs ix).length = obs.length := by simp [sweepK]
theorem sweepK_nil (obs : List ObM) : sweepK obs [] = obs := by
  refine List.ext_getElem? fun i => ?_
  rw [sweepK_get]
  cases obs[i]? <;> simp
theorem sweepK_white {obs : List ObM} {ix : List Nat} {i : Nat} {o : ObM} (h : obs[i]? = some o) (hc : o.col = 1) : sweepK obs (ix ++ [i]) = sweepK obs ix := by
  refine List.ext_getElem? fun j => ?_
  rw [sweepK_get, sweepK_get]
  by_cases e : j = i
  · subst e
    rw [h]
    simp [hc]
  · cases obs[j]? <;> simp [e]
theorem sweepK_left {obs : List ObM} {ix : List Nat} {i : Nat} {o : ObM} (h : obs[i]? = some o) (hc : o.col ≠ 1) : sweepK obs (ix ++ [i]) = setCol (sweepK obs ix) ((i : Int) + 1) 0 := by
  refine List.ext_getElem? fun j => ?_
  rw [setCol, List.getElem?_modify, sweepK_get, sweepK_get, show ((i : Int) + 1).toNat - 1 = i by omega]
  by_cases e : j = i
  · subst e
    rw [h]
    by_cases q : j ∈ ix <;> simp [hc, q]
  · have e' : ¬ i = j := fun q => e q.symm
    cases obs[j]? with
    | none => simp
    | some x => by_cases q : j ∈ ix <;> simp [e, e', q]
theorem sweepK_ther (obs : List ObM) (ix : List Nat) : therL (sweepK obs ix) = therL obs := by
  unfold therL
  rw [sweepK_length]
  refine List.filter_congr fun i _ => ?_
  rw [sweepK_get]
  cases obs[i]? with
  | none => rfl
  | some o => by_cases q : i ∈ ix ∧ o.col ≠ 1 <;> simp [q]
theorem therL_nodup (obs : List ObM) : (therL obs).Nodup := List.Pairwise.filter _ List.nodup_range
theorem nodup_take {l : List Nat} (h : l.Nodup) {m : Nat} (hm : m < l.length) : l[m] ∉ l.take m := fun q => by
  obtain ⟨j, hj, e⟩ := List.mem_iff_getElem.1 q
  have hj2 : j < m := by simp at hj; omega
  rw [List.getElem_take] at e
  have := (List.pairwise_iff_getElem.1 h) j m (by omega) hm hj2
  exact this e
theorem sweepK_cur {obs : List ObM} {ix : List Nat} {i : Nat} {o : ObM} (h : getM obs ((i : Int) + 1) = some o) (hi : i ∉ ix) : getM (sweepK obs ix) ((i : Int) + 1) = some o := by
  obtain ⟨h1, h2, h3⟩ := getM_some.1 h
  refine getM_some.2 ⟨h1, ?_, h3⟩
  rw [show ((i : Int) + 1).toNat - 1 = i by omega] at h2 ⊢
  rw [sweepK_get, h2]
  simp [hi]
theorem therL_sweep (obs : List ObM) : therL (sweepM obs) = leftL obs (therL obs) := by
  unfold leftL therL
  rw [List.filter_filter, sweepM_length]
  refine List.filter_congr fun i _ => ?_
  unfold whiteAt sweepM
  rw [List.getElem?_map]
  cases obs[i]? with
  | none => rfl
  | some o =>
    cases ht : o.there <;> by_cases hc : o.col = 1 <;> simp [ht, hc]
theorem sweepK_sweep {obs : List ObM} {i : Nat} {o : ObM} (h : (sweepM obs)[i]? = some o) : ∃ o', (sweepK obs (therL obs))[i]? = some o' ∧ o'.flds = o.flds ∧ o'.col = o.col := by
  unfold sweepM at h
  rw [List.getElem?_map] at h
  rw [sweepK_get]
  cases e : obs[i]? with
  | none => rw [e] at h; simp at h
  | some x =>
    rw [e] at h
    have hx : i ∈ therL obs ↔ x.there = true := by
      rw [mem_therL]
      constructor
      · rintro ⟨y, h1, h2⟩
        rw [e] at h1
        injection h1 with h1
        subst h1
        exact h2
      · exact fun q => ⟨x, e, q⟩
    simp only [Option.map_some, Option.some.injEq] at h ⊢
    subst h
    refine ⟨_, rfl, ?_, ?_⟩ <;> (cases ht : x.there <;> by_cases hc : x.col = 1 <;> simp [ht, hc, hx])
/-- The objects that are left become the heap's. -/
theorem SpW.left {w : World} {F G : Nat → Prop} {H R : Nat} {s : StM} {ps fs : List Nat} {ov qv lv : Value} (h : SpW w G H { s with obs := sweepK s.obs (therL s.obs) } ps fs ov R qv) (hl : w.ownsRow 0 62 1 lv (leftL s.obs (therL s.obs)).length (ptrsP ps (leftL s.obs (therL s.obs)))) (hF : ∀ k, F k → G k) (hlF : ∀ k, lv.ownBlock = some k → ¬ F k) : SpW (w.setCell ⟨H, 1, none⟩ lv) F H { s with obs := sweepM s.obs } ps fs lv R qv := by
  have hne : ∀ k, k ∈ ps ∨ k ∈ fs → k ≠ H := fun k hk e => by
    rcases hk with hk | hk
    · obtain ⟨i, hi, e2⟩ := List.mem_iff_getElem.1 hk
      have hi2 : i < (sweepK s.obs (therL s.obs)).length := by have q : ps.length = (sweepK s.obs (therL s.obs)).length := h.ob.lp; omega
      have b := (h.ob.at_ i _ (List.getElem?_eq_getElem hi2)).blk
      rw [List.getD_eq_getElem?_getD, List.getElem?_eq_getElem hi] at b
      exact tag_ne b h.blk (by decide) (e2.trans e)
    · obtain ⟨i, hi, e2⟩ := List.mem_iff_getElem.1 hk
      have hi2 : i < (sweepK s.obs (therL s.obs)).length := by have q : fs.length = (sweepK s.obs (therL s.obs)).length := h.ob.lf; omega
      have b := (h.ob.at_ i _ (List.getElem?_eq_getElem hi2)).row
      rw [List.getD_eq_getElem?_getD, List.getElem?_eq_getElem hi] at b
      exact tag_ne b h.blk (by decide) (e2.trans e)
  have hob := h.ob.mv (w' := w.setCell ⟨H, 1, none⟩ lv) (G := F) fun k hk => ⟨set_other _ (hne k hk), fun q => (h.ob.lt hk).2 (hF k q)⟩
  refine ⟨⟨by rw [hob.lp, sweepK_length, sweepM_length], by rw [hob.lf, sweepK_length, sweepM_length], fun i o ho => ?_, hob.nd, hob.lo⟩, ?_, ?_, ?_, ?_, h.n1, h.n2, h.n3, ⟨fun q => h.lo.1 (hF _ q), fun q => h.lo.2.1 (hF _ q), fun k q => by have := h.lo.2.2 k (hF k q); simpa [World.setCell] using this⟩, ⟨hlF, fun k q r => h.fo.2 k q (hF k r)⟩⟩
  · obtain ⟨o', h1, h2, h3⟩ := sweepK_sweep ho
    have a := hob.at_ i o' h1
    refine ⟨?_, ?_⟩
    · rw [← h2, ← h3]; exact a.blk
    · rw [← h2]; exact a.row
  · have hl2 : (sweepM s.obs).length = (sweepK s.obs (therL s.obs)).length := by rw [sweepK_length, sweepM_length]
    show _ = some (Obj.cells #[_, _, _, _, _, .int .i64 ((sweepM s.obs).length : Nat)] 61 (0, 0))
    rw [hl2, set_same _ h.blk]
    rfl
  · show World.ownsRow _ _ _ _ _ (therL (sweepM s.obs)).length (ptrsP ps (therL (sweepM s.obs)))
    rw [therL_sweep]
    exact own_kept hl fun k q => by
      obtain ⟨cur, b⟩ := own_tag hl q
      exact set_other _ (tag_ne b h.blk (by decide))
  · rw [set_other _ (tag_ne h.rt h.blk (by decide))]
    exact h.rt
  · exact own_kept h.ro fun k q => by
      obtain ⟨cur, b⟩ := own_tag h.ro q
      exact set_other _ (tag_ne b h.blk (by decide))
end Go.Proofs.Ytchcdlelaklnnaa

/- The specification's heap: a cycle ends (the walk). -/
namespace Go.Proofs.Ytchcdlelaklnnaa
set_option linter.unusedVariables false
open Go.ChangeShapes Go.WideShapes Go.ChangeAt Go.RowKit

/-- Where the sweep stands. -/
structure SwW (w wr : World) (F : Nat → Prop) (H : Nat) (t : StM) (ps fs : List Nat) (ov : Value) (R : Nat) (qv gv lv : Value) (ix : List Nat) : Prop where
  sp : SpW wr (fun k => F k ∨ gv.ownBlock = some k ∨ lv.ownBlock = some k) H { t with obs := sweepK t.obs ix } ps fs ov R qv
  go : OutAt w.heap.size wr gv (goneL t.obs ix)
  le : wr.ownsRow w.heap.size 62 1 lv (leftL t.obs ix).length (ptrsP ps (leftL t.obs ix))
  kp : Keep F w wr
  fl : ∀ k, F k → k < w.heap.size
theorem SwW.ne {w wr : World} {F : Nat → Prop} {H : Nat} {t : StM} {ps fs : List Nat} {ov : Value} {R : Nat} {qv gv lv : Value} {ix : List Nat} (h : SwW w wr F H t ps fs ov R qv gv lv ix) {k : Nat} : (gv.ownBlock = some k → ¬ F k ∧ lv.ownBlock ≠ some k ∧ k < wr.heap.size) ∧ (lv.ownBlock = some k → ¬ F k ∧ gv.ownBlock ≠ some k ∧ k < wr.heap.size) := by
  refine ⟨fun q => ⟨fun r => ?_, fun r => ?_, (World.ownsRow.lt h.go k q).2⟩, fun q => ⟨fun r => ?_, fun r => ?_, (World.ownsRow.lt h.le k q).2⟩⟩
  · have := (World.ownsRow.lt h.go k q).1
    have := h.fl k r
    omega
  · obtain ⟨c1, a⟩ := own_tag h.go q
    obtain ⟨c2, b⟩ := own_tag h.le r
    exact tag_ne a b (by decide) rfl
  · have := (World.ownsRow.lt h.le k q).1
    have := h.fl k r
    omega
  · obtain ⟨c1, a⟩ := own_tag h.le q
    obtain ⟨c2, b⟩ := own_tag h.go r
    exact tag_ne a b (by decide) rfl
theorem goneL_snoc {obs : List ObM} {ix : List Nat} {i : Nat} {o : ObM} (h : obs[i]? = some o) (hc : o.col = 1) : goneL obs (ix ++ [i]) = goneL obs ix ++ [(i : Int) + 1] ∧ leftL obs (ix ++ [i]) = leftL obs ix := by
  have e : whiteAt obs i = true := by rw [whiteAt_of h]; simp [hc]
  unfold goneL leftL
  rw [List.filter_append, List.filter_append]
  simp [e]
theorem leftL_snoc {obs : List ObM} {ix : List Nat} {i : Nat} {o : ObM} (h : obs[i]? = some o) (hc : o.col ≠ 1) : leftL obs (ix ++ [i]) = leftL obs ix ++ [i] ∧ goneL obs (ix ++ [i]) = goneL obs ix := by
  have e : whiteAt obs i = false := by rw [whiteAt_of h]; simp [hc]
  unfold goneL leftL
  rw [List.filter_append, List.filter_append]
  simp [e]
theorem SwW.gone {w wr w3 : World} {F : Nat → Prop} {H : Nat} {t : StM} {ps fs : List Nat} {ov : Value} {R : Nat} {qv gv lv gv' : Value} {ix : List Nat} {i : Nat} {o : ObM} {ob : Obj} (h : SwW w wr F H t ps fs ov R qv gv lv ix) (hi : t.obs[i]? = some o) (hc : o.col = 1) (hg : (wr.alloc ob).grownBy w3 gv.ownBlock) (ho : w3.ownsRow w.heap.size 2 1 gv' ((goneL t.obs ix).length + 1) (intsV (goneL t.obs ix) ++ [.int .i64 ((i : Int) + 1)])) (ha : gv'.ownBlock = gv.ownBlock ∨ gv'.ownBlock = some (wr.alloc ob).heap.size) : SwW w w3 F H t ps fs ov R qv gv' lv (ix ++ [i]) := by
  have s1 : (wr.alloc ob).heap.size = wr.heap.size + 1 := World.size_alloc _ _
  have s2 := hg.size
  have kp : ∀ k, k < wr.heap.size → gv.ownBlock ≠ some k → w3.heap[k]? = wr.heap[k]? := fun k hk hq => by
    rw [hg.block k (by omega) (fun e => hq e.symm), Below.heap_alloc _ _ _ hk]
  have hnew : ∀ k, k < wr.heap.size → gv.ownBlock ≠ some k → gv'.ownBlock ≠ some k := fun k hk hq q => by
    rcases ha with e | e
    · exact hq (e.symm.trans q)
    · rw [e] at q
      injection q with q
      omega
  obtain ⟨e1, e2⟩ := goneL_snoc (ix := ix) hi hc
  refine ⟨?_, ?_, ?_, ?_, h.fl⟩
  · rw [sweepK_white hi hc]
    refine h.sp.mv (fun k hk hn => ⟨kp k hk (fun q => hn (.inr (.inl q))), fun q => ?_⟩) fun k hk => ?_
    · rcases q with q | q | q
      · exact hn (.inl q)
      · exact hnew k hk (fun q => hn (.inr (.inl q))) q
      · exact hn (.inr (.inr q))
    · rcases hk with q | q | q
      · have := h.fl k q
        have := h.kp.size
        omega
      · exact (World.ownsRow.lt ho k q).2
      · have := (h.ne.2 q).2.2
        omega
  · rw [e1]
    unfold OutAt
    rw [List.length_append, intsV_append]
    exact ho
  · rw [e2]
    exact own_kept h.le fun k q => kp k (h.ne.2 q).2.2 (h.ne.2 q).2.1
  · refine h.kp.trans ⟨hg.os, hg.tape, hg.output, by omega, fun k hk => ?_⟩
    have := h.fl k hk
    have := h.kp.size
    exact kp k (by omega) (fun q => (h.ne.1 q).1 hk)
theorem SwW.clear {w wr : World} {F : Nat → Prop} {H : Nat} {t : StM} {ps fs : List Nat} {ov : Value} {R : Nat} {qv gv lv : Value} {ix : List Nat} {i : Nat} {o : ObM} (h : SwW w wr F H t ps fs ov R qv gv lv ix) (hi : getM t.obs ((i : Int) + 1) = some o) (hn : i ∉ ix) (hc : o.col ≠ 1) : SpW (wr.setCell ⟨ps.getD i 0, 2, none⟩ (.int .i64 0)) (fun k => F k ∨ gv.ownBlock = some k ∨ lv.ownBlock = some k) H { t with obs := sweepK t.obs (ix ++ [i]) } ps fs ov R qv ∧ ¬ F (ps.getD i 0) ∧ gv.ownBlock ≠ some (ps.getD i 0) ∧ lv.ownBlock ≠ some (ps.getD i 0) := by
  have hg := sweepK_cur (ix := ix) hi hn
  have hs := h.sp.colour (z := (i : Int) + 1) hg 0
  rw [show ((i : Int) + 1).toNat - 1 = i by omega] at hs
  obtain ⟨_, h2, _⟩ := getM_some.1 hi
  rw [show ((i : Int) + 1).toNat - 1 = i by omega] at h2
  have hp := h.sp.ob.lo.1 (ps.getD i 0) (by
    have hl := (List.getElem?_eq_some_iff.1 h2).1
    have q : ps.length = (sweepK t.obs ix).length := h.sp.ob.lp
    rw [sweepK_length] at q
    rw [List.getD_eq_getElem?_getD, List.getElem?_eq_getElem (by omega)]
    exact List.getElem_mem _)
  rw [sweepK_left h2 hc]
  exact ⟨hs, fun q => hp (.inl q), fun q => hp (.inr (.inl q)), fun q => hp (.inr (.inr q))⟩
theorem SwW.left {w wr w3 : World} {F : Nat → Prop} {H : Nat} {t : StM} {ps fs : List Nat} {ov : Value} {R : Nat} {qv gv lv lv' : Value} {ix : List Nat} {i : Nat} {o : ObM} {ob : Obj} (h : SwW w wr F H t ps fs ov R qv gv lv ix) (hi : getM t.obs ((i : Int) + 1) = some o) (hn : i ∉ ix) (hc : o.col ≠ 1) (hg : ((wr.setCell ⟨ps.getD i 0, 2, none⟩ (.int .i64 0)).alloc ob).grownBy w3 lv.ownBlock) (ho : w3.ownsRow w.heap.size 62 1 lv' ((leftL t.obs ix).length + 1) (ptrsP ps (leftL t.obs ix) ++ [.pointer (some ⟨ps.getD i 0, 0, none⟩)])) (ha : lv'.ownBlock = lv.ownBlock ∨ lv'.ownBlock = some ((wr.setCell ⟨ps.getD i 0, 2, none⟩ (.int .i64 0)).alloc ob).heap.size) : SwW w w3 F H t ps fs ov R qv gv lv' (ix ++ [i]) := by
  obtain ⟨hs, p1, p2, p3⟩ := h.clear hi hn hc
  obtain ⟨_, h2, _⟩ := getM_some.1 hi
  rw [show ((i : Int) + 1).toNat - 1 = i by omega] at h2
  obtain ⟨W, hW⟩ : ∃ W, W = wr.setCell ⟨ps.getD i 0, 2, none⟩ (.int .i64 0) := ⟨_, rfl⟩
  have hsz : W.heap.size = wr.heap.size := by rw [hW]; simp [World.setCell]
  have hkW : ∀ k, k ≠ ps.getD i 0 → W.heap[k]? = wr.heap[k]? := fun k hk => by rw [hW]; exact set_other _ hk
  rw [← hW] at hs hg ha
  have s1 : (W.alloc ob).heap.size = W.heap.size + 1 := World.size_alloc _ _
  have s2 := hg.size
  have kp : ∀ k, k < W.heap.size → lv.ownBlock ≠ some k → w3.heap[k]? = W.heap[k]? := fun k hk hq => by
    rw [hg.block k (by omega) (fun e => hq e.symm), Below.heap_alloc _ _ _ hk]
  have hnew : ∀ k, k < W.heap.size → lv.ownBlock ≠ some k → lv'.ownBlock ≠ some k := fun k hk hq q => by
    rcases ha with e | e
    · exact hq (e.symm.trans q)
    · rw [e] at q
      injection q with q
      omega
  obtain ⟨e1, e2⟩ := leftL_snoc (ix := ix) h2 hc
  refine ⟨?_, ?_, ?_, ?_, h.fl⟩
  · refine hs.mv (fun k hk hn => ⟨kp k hk (fun q => hn (.inr (.inr q))), fun q => ?_⟩) fun k hk => ?_
    · rcases q with q | q | q
      · exact hn (.inl q)
      · exact hn (.inr (.inl q))
      · exact hnew k hk (fun q => hn (.inr (.inr q))) q
    · rcases hk with q | q | q
      · have := h.fl k q
        have := h.kp.size
        omega
      · have := (h.ne.1 q).2.2
        omega
      · exact (World.ownsRow.lt ho k q).2
  · rw [e2]
    refine own_kept h.go fun k q => ?_
    rw [kp k (by have := (h.ne.1 q).2.2; omega) (h.ne.1 q).2.1]
    exact hkW k (fun e => p2 (e ▸ q))
  · rw [e1]
    have : ptrsP ps (leftL t.obs ix ++ [i]) = ptrsP ps (leftL t.obs ix) ++ [.pointer (some ⟨ps.getD i 0, 0, none⟩)] := by simp [ptrsP]
    rw [this, List.length_append]
    exact ho
  · refine h.kp.trans ⟨hg.os.trans (by rw [hW]; rfl), hg.tape.trans (by rw [hW]; rfl), hg.output.trans (by rw [hW]; rfl), by omega, fun k hk => ?_⟩
    have := h.fl k hk
    have := h.kp.size
    rw [kp k (by omega) (fun q => (h.ne.2 q).1 hk)]
    exact hkW k (fun e => p1 (e ▸ hk))
/-- How it ends. -/
theorem SwW.done {w wr : World} {F : Nat → Prop} {H : Nat} {t : StM} {ps fs : List Nat} {ov : Value} {R : Nat} {qv gv lv : Value} (h : SwW w wr F H t ps fs ov R qv gv lv (therL t.obs)) : SpW ((wr.setCell ⟨H, 1, none⟩ lv).setCell ⟨H, 3, none⟩ (.bool false)) (fun k => F k ∨ gv.ownBlock = some k) H { t with obs := sweepM t.obs, cyc := false } ps fs lv R qv ∧ OutAt w.heap.size ((wr.setCell ⟨H, 1, none⟩ lv).setCell ⟨H, 3, none⟩ (.bool false)) gv (goneM t.obs) ∧ Keep F w ((wr.setCell ⟨H, 1, none⟩ lv).setCell ⟨H, 3, none⟩ (.bool false)) := by
  have hl := SpW.left (F := fun k => F k ∨ gv.ownBlock = some k) h.sp (own_mono h.le (Nat.zero_le _)) (fun k q => by
    rcases q with q | q
    · exact .inl q
    · exact .inr (.inl q)) (fun k q r => by
    rcases r with r | r
    · exact (h.ne.2 q).1 r
    · exact (h.ne.2 q).2.1 r)
  refine ⟨hl.flag false, ?_, ?_⟩
  · rw [← goneL_all]
    refine own_kept h.go fun k q => ?_
    obtain ⟨cur, b⟩ := own_tag h.go q
    have hk : k ≠ H := tag_ne b h.sp.blk (by decide)
    rw [set_other _ hk, set_other _ hk]
  · exact (h.kp.setCell (p := ⟨H, 1, none⟩) (fun q => h.sp.lo.1 (.inl q)) _).setCell (p := ⟨H, 3, none⟩) (fun q => h.sp.lo.1 (.inl q)) _
theorem drained_steps {P : StM} {k : Nat} {t : StM} (h : StM.steps 400 P = StM.steps k t) (hr : t.row = []) : StM.steps 400 P = t := by rw [h, steps_nil hr]
end Go.Proofs.Ytchcdlelaklnnaa
