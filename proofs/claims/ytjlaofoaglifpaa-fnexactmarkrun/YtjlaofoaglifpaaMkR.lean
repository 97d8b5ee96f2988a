/- Marking meanwhile: ops over the plain state. -/
import Derived.Test.YtjlaofoaglifpaaMkQ
namespace Go.Proofs.Ytjlaofoaglifpaa
set_option linter.unusedVariables false
structure OpM where
  kind : Int
  a : Int
  b : Int
  c : Int
structure AnsM where
  code : Int
  n : Int
  grey : Int
  gone : List Int
def isR (n : Int) : Bool := decide (0 ≤ n) && decide (n < 8)
theorem isR_iff {n : Int} : isR n = true ↔ 0 ≤ n ∧ n < 8 := by simp [isR]
def okM (s : StM) (op : OpM) : Bool :=
  if op.kind = 1 then isR op.a && (decide (0 ≤ op.b) && decide (op.b ≤ 6)) && decide ((s.obs.length : Int) < 400)
  else if op.kind = 2 ∨ op.kind = 3 ∨ op.kind = 4 then isR op.a && isR op.b
  else if op.kind = 5 then isR op.a
  else if op.kind = 7 then decide (0 ≤ op.a) && decide (op.a ≤ 100)
  else decide (op.kind = 6) || decide (op.kind = 8)
def rootM (s : StM) (n : Int) : Int := s.roots.getD n.toNat 0
def setR (s : StM) (n z : Int) : StM := { s with roots := s.roots.set n.toNat z }
def fcodeM (s : StM) (z c : Int) : Int :=
  match getM s.obs z with
  | none => 2
  | some o => if 0 ≤ c ∧ c < (o.flds.length : Int) then 0 else 3
def codeM (s : StM) (op : OpM) : Int :=
  if okM s op = false then 1
  else if op.kind = 2 then fcodeM s (rootM s op.b) op.c
  else if op.kind = 3 then fcodeM s (rootM s op.a) op.c
  else if 6 ≤ op.kind ∧ s.cyc = decide (op.kind = 6) then 4
  else 0
def fieldM (s : StM) (z c : Int) : Int := (fldsM s.obs z).getD c.toNat 0
def setF (obs : List ObM) (z c v : Int) : List ObM := obs.modify (z.toNat - 1) fun o => { o with flds := o.flds.set c.toNat v }
def colM (s : StM) (z : Int) : Int := ((getM s.obs z).map ObM.col).getD 0
def barM (s : StM) (z c v : Int) : StM := if s.mode = 1 then s.shade (fieldM s z c) else if colM s z = 3 then s.shade v else s
def putM (s : StM) (z c v : Int) : StM := { barM s z c v with obs := setF (barM s z c v).obs z c v }
def makeM (s : StM) (n k : Int) : StM := { s with obs := s.obs ++ [⟨List.replicate k.toNat 0, if s.cyc then 3 else 0, true⟩], roots := s.roots.set n.toNat ((s.obs.length : Int) + 1) }
def actM (s : StM) (op : OpM) : StM :=
  if op.kind = 1 then makeM s op.a op.b
  else if op.kind = 2 then setR s op.a (fieldM s (rootM s op.b) op.c)
  else if op.kind = 3 then putM s (rootM s op.a) op.c (rootM s op.b)
  else if op.kind = 4 then setR s op.a (rootM s op.b)
  else if op.kind = 5 then setR s op.a 0
  else if op.kind = 6 then s.begin
  else if op.kind = 7 then StM.steps op.a.toNat s
  else s.fin
def doM (s : StM) (op : OpM) : StM := if codeM s op = 0 then actM s op else s
def ansM (s : StM) (op : OpM) : AnsM := ⟨codeM s op, if codeM s op = 0 ∧ op.kind < 6 then rootM (doM s op) op.a else 0, (doM s op).row.length, if codeM s op = 0 ∧ op.kind = 8 then goneM s.drained.obs else []⟩
def newM (mode : Int) : StM := ⟨mode, [], List.replicate 8 0, false, []⟩
def runM (s : StM) (ops : List OpM) : StM := ops.foldl doM s
def ansL : StM → List OpM → List AnsM
  | _, [] => []
  | s, op :: ops => ansM s op :: ansL (doM s op) ops
theorem InvM.new (mode : Int) : InvM (newM mode) :=
  ⟨by simp [newM], fun r hr => by simp [newM] at hr; simp [newM, hr], fun o ho => by simp [newM] at ho, List.nodup_nil, fun z => by simp [newM, getM], fun _ z o h => by simp [newM, getM] at h, fun q => by simp [newM] at q⟩
theorem rootM_rng {s : StM} (h : InvM s) (n : Int) : 0 ≤ rootM s n ∧ rootM s n ≤ (s.obs.length : Int) := by
  unfold rootM
  rw [List.getD_eq_getElem?_getD]
  cases e : s.roots[n.toNat]? with
  | none => simp
  | some r => exact h.rr r (List.mem_of_getElem? e)
theorem InvM.setR {s : StM} (h : InvM s) (n z : Int) (hz : 0 ≤ z ∧ z ≤ (s.obs.length : Int)) : InvM (setR s n z) := by
  refine ⟨by simp [Go.Proofs.Ytjlaofoaglifpaa.setR, h.rl], fun r hr => ?_, h.fr, h.nd, h.gr, h.out, h.inn⟩
  rcases List.mem_or_eq_of_mem_set hr with q | rfl
  · exact h.rr r q
  · exact hz
theorem fieldM_rng {s : StM} (h : InvM s) (z c : Int) : 0 ≤ fieldM s z c ∧ fieldM s z c ≤ (s.obs.length : Int) := by
  unfold fieldM fldsM
  rw [List.getD_eq_getElem?_getD]
  cases e : getM s.obs z with
  | none => simp
  | some o =>
    simp only [Option.map_some, Option.getD_some]
    cases e2 : o.flds[c.toNat]? with
    | none => simp
    | some f => exact h.fr o (getM_mem e) f (List.mem_of_getElem? e2)
theorem getM_setF {obs : List ObM} {z c v : Int} (hz : 1 ≤ z) (y : Int) : getM (setF obs z c v) y = if y = z then (getM obs y).map (fun o => { o with flds := o.flds.set c.toNat v }) else getM obs y := by
  by_cases hy : 1 ≤ y
  · unfold getM setF
    rw [if_pos hy, if_pos hy, List.getElem?_modify]
    by_cases e : y = z
    · subst e
      simp only [if_true]
      cases obs[y.toNat - 1]? with
      | none => simp
      | some x => cases hx : x.there <;> simp [hx]
    · have h1 : ¬ (z.toNat - 1 = y.toNat - 1) := by omega
      rw [if_neg e]
      cases obs[y.toNat - 1]? <;> simp [h1]
  · unfold getM
    rw [if_neg hy, if_neg hy]
    by_cases e : y = z
    · omega
    · rw [if_neg e]
theorem setF_length (obs : List ObM) (z c v : Int) : (setF obs z c v).length = obs.length := by simp [setF]
theorem setF_flds {obs : List ObM} {z c v : Int} {o : ObM} (h : o ∈ setF obs z c v) : ∃ o' ∈ obs, ∀ f ∈ o.flds, f ∈ o'.flds ∨ f = v := by
  obtain ⟨i, hi, rfl⟩ := List.mem_iff_getElem.1 h
  have hi' : i < obs.length := by rw [setF_length] at hi; exact hi
  refine ⟨obs[i], List.getElem_mem _, fun f hf => ?_⟩
  simp only [setF, List.getElem_modify] at hf
  split at hf
  · exact List.mem_or_eq_of_mem_set hf
  · exact .inl hf
theorem InvM.bar {s : StM} (h : InvM s) (z c v : Int) : InvM (barM s z c v) := by
  unfold barM
  split
  · exact h.shade _
  · split
    · exact h.shade _
    · exact h
theorem bar_frame (s : StM) (z c v : Int) : (barM s z c v).mode = s.mode ∧ (barM s z c v).roots = s.roots ∧ (barM s z c v).cyc = s.cyc ∧ (barM s z c v).obs.length = s.obs.length := by
  unfold barM
  split
  · exact shade_frame _ _
  · split
    · exact shade_frame _ _
    · exact ⟨rfl, rfl, rfl, rfl⟩
theorem InvM.put {s : StM} (h : InvM s) {z c v : Int} (hz : 1 ≤ z) (hv : 0 ≤ v ∧ v ≤ (s.obs.length : Int)) : InvM (putM s z c v) := by
  have hb := h.bar z c v
  have hf := bar_frame s z c v
  unfold putM
  generalize barM s z c v = t at hb hf
  rw [← hf.2.2.2] at hv
  refine ⟨hb.rl, fun r hr => by show 0 ≤ r ∧ r ≤ ((setF t.obs z c v).length : Int); rw [setF_length]; exact hb.rr r hr, fun o ho f hfo => ?_, hb.nd, fun y => ?_, fun q y o ho => ?_, fun q y o ho => ?_⟩
  · show 0 ≤ f ∧ f ≤ ((setF t.obs z c v).length : Int)
    rw [setF_length]
    obtain ⟨o', ho', hh⟩ := setF_flds ho
    rcases hh f hfo with q | rfl
    · exact hb.fr o' ho' f q
    · exact hv
  · show y ∈ t.row ↔ ∃ o, getM (setF t.obs z c v) y = some o ∧ o.col = 2
    rw [hb.gr y, getM_setF hz]
    by_cases e : y = z
    · subst e
      rw [if_pos rfl]
      cases getM t.obs y <;> simp
    · rw [if_neg e]
  · have ho : getM (setF t.obs z c v) y = some o := ho
    rw [getM_setF hz] at ho
    by_cases e : y = z
    · subst e
      rw [if_pos rfl] at ho
      cases hg : getM t.obs y with
      | none => rw [hg] at ho; cases ho
      | some x => rw [hg] at ho; simp at ho; subst ho; exact hb.out q y x hg
    · rw [if_neg e] at ho
      exact hb.out q y o ho
  · have ho : getM (setF t.obs z c v) y = some o := ho
    rw [getM_setF hz] at ho
    by_cases e : y = z
    · subst e
      rw [if_pos rfl] at ho
      cases hg : getM t.obs y with
      | none => rw [hg] at ho; cases ho
      | some x => rw [hg] at ho; simp at ho; subst ho; exact hb.inn q y x hg
    · rw [if_neg e] at ho
      exact hb.inn q y o ho
theorem getM_app {obs : List ObM} {x : ObM} (hx : x.there = true) (z : Int) : getM (obs ++ [x]) z = if z = (obs.length : Int) + 1 then some x else getM obs z := by
  unfold getM
  by_cases h1 : 1 ≤ z
  · rw [if_pos h1, if_pos h1]
    by_cases e : z = (obs.length : Int) + 1
    · have e2 : z.toNat - 1 = obs.length := by omega
      rw [if_pos e, e2, List.getElem?_append_right (Nat.le_refl _)]
      simp [hx]
    · rw [if_neg e]
      by_cases h2 : z.toNat - 1 < obs.length
      · rw [List.getElem?_append_left h2]
      · rw [List.getElem?_eq_none (by simp; omega), List.getElem?_eq_none (by omega)]
  · rw [if_neg h1, if_neg h1, if_neg (by omega)]
theorem InvM.make {s : StM} (h : InvM s) (n k : Int) : InvM (makeM s n k) := by
  have hl : ((makeM s n k).obs.length : Int) = (s.obs.length : Int) + 1 := by simp [makeM]
  have hget : ∀ z, getM (makeM s n k).obs z = if z = (s.obs.length : Int) + 1 then some ⟨List.replicate k.toNat 0, if s.cyc then 3 else 0, true⟩ else getM s.obs z := fun z => getM_app rfl z
  refine ⟨by simp [makeM, h.rl], fun r hr => ?_, fun o ho f hf => ?_, h.nd, fun z => ?_, fun q z o ho => ?_, fun q z o ho => ?_⟩
  · rw [hl]
    rcases List.mem_or_eq_of_mem_set hr with q | rfl
    · have := h.rr r q; omega
    · omega
  · rw [hl]
    rcases List.mem_append.1 ho with q | q
    · have := h.fr o q f hf; omega
    · have e : o = ⟨List.replicate k.toNat 0, if s.cyc then 3 else 0, true⟩ := by simpa using q
      subst e
      have := (List.mem_replicate.1 hf).2
      omega
  · show z ∈ s.row ↔ _
    rw [h.gr z, hget]
    by_cases e : z = (s.obs.length : Int) + 1
    · rw [if_pos e]
      constructor
      · rintro ⟨o, h1, _⟩
        have := (getM_le h1).2
        omega
      · rintro ⟨o, h1, h2⟩
        injection h1 with h1
        subst h1
        cases hc : s.cyc <;> simp [hc] at h2
    · rw [if_neg e]
  · rw [hget] at ho
    have q : s.cyc = false := q
    split at ho
    · injection ho with ho
      subst ho
      simp [q]
    · exact h.out q z o ho
  · rw [hget] at ho
    have q : s.cyc = true := q
    split at ho
    · injection ho with ho
      subst ho
      simp
    · exact h.inn q z o ho
end Go.Proofs.Ytjlaofoaglifpaa
