/- Marking meanwhile: cycles and ops over the plain state. -/
import Derived.Test.YtjlaofoaglifpaaMkP
namespace Go.Proofs.Ytjlaofoaglifpaa
set_option linter.unusedVariables false
def paintM (obs : List ObM) (c : Int) : List ObM := obs.map fun o => if o.there then { o with col := c } else o
theorem paintM_length (obs : List ObM) (c : Int) : (paintM obs c).length = obs.length := by simp [paintM]
theorem getM_paint (obs : List ObM) (c z : Int) : getM (paintM obs c) z = (getM obs z).map fun o => { o with col := c } := by
  unfold getM paintM
  split
  · rw [List.getElem?_map]
    cases obs[z.toNat - 1]? with
    | none => rfl
    | some o => cases ho : o.there <;> simp [ho]
  · rfl
theorem paintM_flds {obs : List ObM} {c : Int} {o : ObM} (h : o ∈ paintM obs c) : ∃ o' ∈ obs, o.flds = o'.flds := by
  obtain ⟨x, hx, rfl⟩ := List.mem_map.1 h
  exact ⟨x, hx, by split <;> rfl⟩
def StM.begin (s : StM) : StM := ({ s with obs := paintM s.obs 1, cyc := true } : StM).shades s.roots
theorem InvM.begin {s : StM} (h : InvM s) (hc : s.cyc = false) : InvM s.begin := by
  suffices hp : InvM ({ s with obs := paintM s.obs 1, cyc := true } : StM) from hp.shades _
  refine ⟨h.rl, fun r hr => by show 0 ≤ r ∧ r ≤ ((paintM s.obs 1).length : Int); rw [paintM_length]; exact h.rr r hr, fun o ho f hf => ?_, h.nd, fun z => ?_, (fun q => by cases q), fun _ z o ho => ?_⟩
  · show 0 ≤ f ∧ f ≤ ((paintM s.obs 1).length : Int)
    rw [paintM_length]
    obtain ⟨x, hx, e⟩ := paintM_flds ho
    rw [e] at hf
    exact h.fr x hx f hf
  · show z ∈ s.row ↔ ∃ o, getM (paintM s.obs 1) z = some o ∧ o.col = 2
    rw [h.rest hc, getM_paint]
    constructor
    · intro q; simp at q
    · rintro ⟨o, h1, h2⟩
      cases hg : getM s.obs z with
      | none => rw [hg] at h1; cases h1
      | some x => rw [hg] at h1; simp at h1; subst h1; simp at h2
  · have ho : getM (paintM s.obs 1) z = some o := ho
    rw [getM_paint] at ho
    cases hg : getM s.obs z with
    | none => rw [hg] at ho; cases ho
    | some x => rw [hg] at ho; simp at ho; subst ho; exact .inl rfl
/-- What goes, by ids; what stays. -/
def goneM (obs : List ObM) : List Int := ((List.range obs.length).filter fun i => ((obs[i]?).map fun o => o.there && decide (o.col = 1)).getD false).map fun (i : Nat) => (i : Int) + 1
def sweepM (obs : List ObM) : List ObM := obs.map fun o => if o.there then (if o.col = 1 then { o with there := false } else { o with col := 0 }) else o
theorem sweepM_length (obs : List ObM) : (sweepM obs).length = obs.length := by simp [sweepM]
theorem getM_sweep {obs : List ObM} {z : Int} {o : ObM} : getM (sweepM obs) z = some o ↔ ∃ x, getM obs z = some x ∧ x.col ≠ 1 ∧ o = { x with col := 0 } := by
  unfold getM sweepM
  split
  · rw [List.getElem?_map]
    cases obs[z.toNat - 1]? with
    | none => simp
    | some x =>
      cases ho : x.there
      · simp [ho]
      · by_cases hc : x.col = 1
        · simp [ho, hc]
        · simp only [Option.map_some, ho, hc, if_true, if_false, Option.some.injEq]
          constructor
          · rintro rfl; exact ⟨x, rfl, hc, by rw [ho]⟩
          · rintro ⟨y, rfl, _, rfl⟩; rw [ho]
  · simp
theorem sweepM_flds {obs : List ObM} {o : ObM} (h : o ∈ sweepM obs) : ∃ o' ∈ obs, o.flds = o'.flds := by
  obtain ⟨x, hx, rfl⟩ := List.mem_map.1 h
  refine ⟨x, hx, ?_⟩
  split
  · split <;> rfl
  · rfl
def StM.drained (s : StM) : StM := StM.steps 400 (if s.mode = 2 then s.shades s.roots else s)
def StM.fin (s : StM) : StM := { s.drained with obs := sweepM s.drained.obs, cyc := false }
theorem InvM.pre {s : StM} (h : InvM s) : InvM (if s.mode = 2 then s.shades s.roots else s) := by
  split
  · exact h.shades _
  · exact h
theorem InvM.drained {s : StM} (h : InvM s) : InvM s.drained := h.pre.steps 400
theorem pre_frame (s : StM) : (if s.mode = 2 then s.shades s.roots else s).obs.length = s.obs.length ∧ (if s.mode = 2 then s.shades s.roots else s).roots = s.roots := by
  split
  · exact ⟨(shades_frame _ _).2.2.2, (shades_frame _ _).2.1⟩
  · exact ⟨rfl, rfl⟩
theorem filter_len {α : Type} (p : α → Bool) : ∀ l : List α, (l.filter p).length + (l.filter fun x => !p x).length = l.length
  | [] => rfl
  | x :: l => by
    have := filter_len p l
    rw [List.filter_cons, List.filter_cons]
    cases p x <;> simp <;> omega
/-- The row is no longer than what is not white any more. -/
theorem InvM.weight {s : StM} (h : InvM s) : whites s.obs + s.row.length ≤ s.obs.length := by
  have key : ∀ (row : List Int) (obs : List ObM), row.Nodup → (∀ z ∈ row, ∃ o, getM obs z = some o ∧ o.col ≠ 1) → whites obs + row.length ≤ obs.length := by
    intro row obs hn hr
    have h1 : whites obs + (obs.filter fun o => !(o.there && decide (o.col = 1))).length = obs.length := by
      unfold whites
      exact filter_len (fun o => o.there && decide (o.col = 1)) obs
    have h2 : row.length ≤ (obs.filter fun o => !(o.there && decide (o.col = 1))).length := by
      have e : (obs.filter fun o => !(o.there && decide (o.col = 1))).length = ((List.range obs.length).filter fun i => ((obs[i]?).map fun o => !(o.there && decide (o.col = 1))).getD false).length := by
        clear h1 hr hn
        induction obs with
        | nil => rfl
        | cons x obs ih =>
          rw [List.length_cons, List.range_succ_eq_map, List.filter_cons, List.filter_cons, List.filter_map]
          simp only [List.getElem?_cons_zero, Option.map_some, Option.getD_some]
          have e2 : ((List.range obs.length).filter ((fun i => (((x :: obs)[i]?).map fun o => !(o.there && decide (o.col = 1))).getD false) ∘ Nat.succ)).length = ((List.range obs.length).filter fun i => ((obs[i]?).map fun o => !(o.there && decide (o.col = 1))).getD false).length := by
            congr 1
          split
          · rw [List.length_cons, List.length_cons, List.length_map, e2, ih]
          · rw [List.length_map, e2, ih]
      rw [e]
      have h3 : (row.map fun z => z.toNat - 1).length ≤ _ := nodup_lenN (m := (List.range obs.length).filter fun i => ((obs[i]?).map fun o => !(o.there && decide (o.col = 1))).getD false) ?_ ?_
      · simpa using h3
      · refine List.pairwise_map.2 (hn.imp_of_mem fun {a b} ha hb hab => ?_)
        obtain ⟨o, ho, _⟩ := hr a ha
        obtain ⟨o', ho', _⟩ := hr b hb
        have := (getM_le ho).1
        have := (getM_le ho').1
        omega
      · intro i hi
        obtain ⟨z, hz, rfl⟩ := List.mem_map.1 hi
        obtain ⟨o, ho, hc⟩ := hr z hz
        obtain ⟨a1, a2, a3⟩ := getM_some.1 ho
        have := (List.getElem?_eq_some_iff.1 a2).1
        rw [List.mem_filter, List.mem_range]
        refine ⟨this, ?_⟩
        rw [a2]
        simp [hc]
    omega
  refine key _ _ h.nd fun z hz => ?_
  obtain ⟨o, h1, h2⟩ := (h.gr z).1 hz
  exact ⟨o, h1, by omega⟩
theorem InvM.empty {s : StM} (h : InvM s) (hl : s.obs.length ≤ 400) : s.drained.row = [] := by
  refine steps_enough 400 _ h.pre ?_
  have := h.pre.weight
  have := (pre_frame s).1
  omega
theorem InvM.fin {s : StM} (h : InvM s) (hl : s.obs.length ≤ 400) : InvM s.fin := by
  have hd := h.drained
  have he := h.empty hl
  refine ⟨hd.rl, fun r hr => by show 0 ≤ r ∧ r ≤ ((sweepM s.drained.obs).length : Int); rw [sweepM_length]; exact hd.rr r hr, fun o ho f hf => ?_, hd.nd, fun z => ?_, fun _ z o ho => ?_, fun q => by cases q⟩
  · show 0 ≤ f ∧ f ≤ ((sweepM s.drained.obs).length : Int)
    rw [sweepM_length]
    obtain ⟨x, hx, e⟩ := sweepM_flds ho
    rw [e] at hf
    exact hd.fr x hx f hf
  · show z ∈ s.drained.row ↔ ∃ o, getM (sweepM s.drained.obs) z = some o ∧ o.col = 2
    rw [he]
    constructor
    · intro q; simp at q
    · rintro ⟨o, h1, h2⟩
      obtain ⟨x, _, _, rfl⟩ := getM_sweep.1 h1
      simp at h2
  · obtain ⟨x, _, _, rfl⟩ := getM_sweep.1 ho
    rfl
end Go.Proofs.Ytjlaofoaglifpaa
