/- Marking meanwhile: the plain state of both sides, its steps, and what always holds. -/
import Derived.Test.YtchcdlelaklnnaaLs
namespace Go.Proofs.Ytchcdlelaklnnaa
set_option linter.unusedVariables false
theorem nodup_lenN {α : Type} [DecidableEq α] : ∀ {l m : List α}, l.Nodup → (∀ z ∈ l, z ∈ m) → l.length ≤ m.length
  | [], m, _, _ => by simp
  | z :: l, m, h, hs => by
    have hz := List.nodup_cons.1 h
    have hm : z ∈ m := hs z (by simp)
    have h1 := nodup_lenN (m := m.erase z) hz.2 fun y hy => by
      have hne : y ≠ z := fun q => hz.1 (q ▸ hy)
      exact (List.mem_erase_of_ne hne).2 (hs y (by simp [hy]))
    have h2 := List.length_erase_of_mem hm
    have h3 := List.length_pos_of_mem hm
    simp only [List.length_cons]
    omega
/-- An object that was made: its fields, its colour, and whether it is still there. -/
structure ObM where
  flds : List Int
  col : Int
  there : Bool
/-- The state: the objects that were ever made, by their ids (the first has 1); eight roots; whether a cycle goes on; the ids that are grey, in their row. -/
structure StM where
  mode : Int
  obs : List ObM
  roots : List Int
  cyc : Bool
  row : List Int
/-- The object of an id. -/
def getM (obs : List ObM) (z : Int) : Option ObM :=
  if 1 ≤ z then match obs[z.toNat - 1]? with
    | some o => if o.there then some o else none
    | none => none
  else none
/-- The objects with another colour for one id. -/
def setCol (obs : List ObM) (z c : Int) : List ObM := obs.modify (z.toNat - 1) fun o => { o with col := c }
theorem setCol_length (obs : List ObM) (z c : Int) : (setCol obs z c).length = obs.length := by simp [setCol]
theorem getM_some {obs : List ObM} {z : Int} {o : ObM} : getM obs z = some o ↔ 1 ≤ z ∧ obs[z.toNat - 1]? = some o ∧ o.there = true := by
  unfold getM
  by_cases h : 1 ≤ z
  · rw [if_pos h]
    cases e : obs[z.toNat - 1]? with
    | none => simp
    | some x =>
      by_cases ht : x.there = true
      · simp only [ht, if_true, Option.some.injEq]
        constructor
        · rintro rfl; exact ⟨h, rfl, ht⟩
        · exact fun q => q.2.1
      · simp only [ht]
        constructor
        · intro q; cases q
        · rintro ⟨_, q, r⟩
          injection q with q
          subst q
          exact absurd r ht
  · rw [if_neg h]
    constructor
    · intro q; cases q
    · exact fun q => absurd q.1 h
theorem getM_set {obs : List ObM} {z c : Int} (hz : 1 ≤ z) (y : Int) : getM (setCol obs z c) y = if y = z then (getM obs y).map (fun o => { o with col := c }) else getM obs y := by
  by_cases hy : 1 ≤ y
  · unfold getM setCol
    rw [if_pos hy, if_pos hy, List.getElem?_modify]
    by_cases e : y = z
    · subst e
      simp only [if_true]
      cases obs[y.toNat - 1]? with
      | none => simp
      | some x => cases hx : x.there <;> simp [hx]
    · have h1 : ¬ (z.toNat - 1 = y.toNat - 1) := by omega
      rw [if_neg e]
      cases obs[y.toNat - 1]? <;> simp [h1]
  · unfold getM
    rw [if_neg hy, if_neg hy]
    by_cases e : y = z
    · omega
    · rw [if_neg e]
theorem getM_le {obs : List ObM} {z : Int} {o : ObM} (h : getM obs z = some o) : 1 ≤ z ∧ z ≤ obs.length := by
  obtain ⟨h1, h2, _⟩ := getM_some.1 h
  have := (List.getElem?_eq_some_iff.1 h2).1
  omega
theorem getM_mem {obs : List ObM} {z : Int} {o : ObM} (h : getM obs z = some o) : o ∈ obs := List.mem_of_getElem? (getM_some.1 h).2.1
/-- What is white is made grey, at the end of the row. -/
def StM.shade (s : StM) (z : Int) : StM :=
  match getM s.obs z with
  | some o => if o.col = 1 then { s with obs := setCol s.obs z 2, row := s.row ++ [z] } else s
  | none => s
def StM.shades (s : StM) (zs : List Int) : StM := zs.foldl StM.shade s
theorem shades_nil (s : StM) : s.shades [] = s := rfl
theorem shades_cons (s : StM) (z : Int) (zs : List Int) : s.shades (z :: zs) = (s.shade z).shades zs := rfl
theorem shades_append (s : StM) (zs ys : List Int) : s.shades (zs ++ ys) = (s.shades zs).shades ys := List.foldl_append
/-- The first of the row: what it leads to is shaded, and it is black. -/
def fldsM (obs : List ObM) (z : Int) : List Int := ((getM obs z).map ObM.flds).getD []
def StM.step1 (s : StM) : StM :=
  match s.row with
  | [] => s
  | z :: r => let t := ({ s with row := r } : StM).shades (fldsM s.obs z); { t with obs := setCol t.obs z 3 }
def StM.steps : Nat → StM → StM
  | 0, s => s
  | n + 1, s => match s.row with
    | [] => s
    | _ :: _ => StM.steps n s.step1
/-- What always holds. -/
structure InvM (s : StM) : Prop where
  rl : s.roots.length = 8
  rr : ∀ r ∈ s.roots, 0 ≤ r ∧ r ≤ (s.obs.length : Int)
  fr : ∀ o ∈ s.obs, ∀ f ∈ o.flds, 0 ≤ f ∧ f ≤ (s.obs.length : Int)
  nd : s.row.Nodup
  gr : ∀ z, z ∈ s.row ↔ ∃ o, getM s.obs z = some o ∧ o.col = 2
  out : s.cyc = false → ∀ z o, getM s.obs z = some o → o.col = 0
  inn : s.cyc = true → ∀ z o, getM s.obs z = some o → o.col = 1 ∨ o.col = 2 ∨ o.col = 3
theorem InvM.rest {s : StM} (h : InvM s) (hc : s.cyc = false) : s.row = [] := by
  refine List.eq_nil_iff_forall_not_mem.2 fun z hz => ?_
  obtain ⟨o, h1, h2⟩ := (h.gr z).1 hz
  have := h.out hc z o h1
  omega
theorem setCol_flds {obs : List ObM} {z c : Int} {o : ObM} (h : o ∈ setCol obs z c) : ∃ o' ∈ obs, o.flds = o'.flds := by
  obtain ⟨i, hi, rfl⟩ := List.mem_iff_getElem.1 h
  have hi' : i < obs.length := by rw [setCol_length] at hi; exact hi
  refine ⟨obs[i], List.getElem_mem _, ?_⟩
  simp only [setCol, List.getElem_modify]
  split <;> rfl
theorem shade_some {s : StM} {z : Int} {o : ObM} (h : getM s.obs z = some o) (hc : o.col = 1) : s.shade z = { s with obs := setCol s.obs z 2, row := s.row ++ [z] } := by
  unfold StM.shade
  rw [h]
  simp [hc]
theorem shade_none {s : StM} {z : Int} (h : ∀ o, getM s.obs z = some o → o.col ≠ 1) : s.shade z = s := by
  unfold StM.shade
  cases e : getM s.obs z with
  | none => rfl
  | some o => simp [h o e]
theorem shade_cases (s : StM) (z : Int) : (∃ o, getM s.obs z = some o ∧ o.col = 1) ∨ (∀ o, getM s.obs z = some o → o.col ≠ 1) := by
  cases e : getM s.obs z with
  | none => exact .inr fun o h => by cases h
  | some o =>
    by_cases hc : o.col = 1
    · exact .inl ⟨o, rfl, hc⟩
    · exact .inr fun o' h => by injection h with h; subst h; exact hc
theorem shade_frame (s : StM) (z : Int) : (s.shade z).mode = s.mode ∧ (s.shade z).roots = s.roots ∧ (s.shade z).cyc = s.cyc ∧ (s.shade z).obs.length = s.obs.length := by
  rcases shade_cases s z with ⟨o, h, hc⟩ | h
  · rw [shade_some h hc]; exact ⟨rfl, rfl, rfl, setCol_length _ _ _⟩
  · rw [shade_none h]; exact ⟨rfl, rfl, rfl, rfl⟩
theorem InvM.shade {s : StM} (h : InvM s) (z : Int) : InvM (s.shade z) := by
  rcases shade_cases s z with ⟨o, hg, hc⟩ | hn
  · rw [shade_some hg hc]
    have hz := (getM_le hg).1
    have hnot : z ∉ s.row := fun q => by
      obtain ⟨o', h1, h2⟩ := (h.gr z).1 q
      rw [hg] at h1
      injection h1 with h1
      subst h1
      omega
    refine ⟨h.rl, fun r hr => by rw [setCol_length]; exact h.rr r hr, fun x hx f hf => ?_, ?_, fun y => ?_, fun q => ?_, fun q y x hx => ?_⟩
    · rw [setCol_length]
      obtain ⟨x', hx', e⟩ := setCol_flds hx
      rw [e] at hf
      exact h.fr x' hx' f hf
    · exact List.nodup_append.2 ⟨h.nd, by simp, fun a ha b hb => by
        have : b = z := by simpa using hb
        subst this
        exact fun q => hnot (q ▸ ha)⟩
    · show y ∈ s.row ++ [z] ↔ ∃ o, getM (setCol s.obs z 2) y = some o ∧ o.col = 2
      rw [getM_set hz]
      by_cases e : y = z
      · subst e
        rw [hg]
        simp
      · rw [if_neg e, List.mem_append, h.gr y]
        simp [e]
    · have := h.out q z o hg
      omega
    · have hx : getM (setCol s.obs z 2) y = some x := hx
      rw [getM_set hz] at hx
      by_cases e : y = z
      · subst e
        rw [hg] at hx
        simp at hx
        subst hx
        exact .inr (.inl rfl)
      · rw [if_neg e] at hx
        exact h.inn q y x hx
  · rw [shade_none hn]; exact h
theorem InvM.shades {s : StM} (h : InvM s) : ∀ zs : List Int, InvM (s.shades zs)
  | [] => h
  | z :: zs => by rw [shades_cons]; exact (h.shade z).shades zs
theorem shades_frame (s : StM) : ∀ zs : List Int, (s.shades zs).mode = s.mode ∧ (s.shades zs).roots = s.roots ∧ (s.shades zs).cyc = s.cyc ∧ (s.shades zs).obs.length = s.obs.length
  | [] => ⟨rfl, rfl, rfl, rfl⟩
  | z :: zs => by
    rw [shades_cons]
    have h1 := shade_frame s z
    have h2 := shades_frame (s.shade z) zs
    exact ⟨h2.1.trans h1.1, h2.2.1.trans h1.2.1, h2.2.2.1.trans h1.2.2.1, h2.2.2.2.trans h1.2.2.2⟩
/-- Shading changes colours alone, white to grey. -/
structure ShM (s t : StM) : Prop where
  to : ∀ z o, getM s.obs z = some o → ∃ o', getM t.obs z = some o' ∧ o'.flds = o.flds ∧ (o'.col = o.col ∨ o.col = 1 ∧ o'.col = 2)
  of : ∀ z o', getM t.obs z = some o' → ∃ o, getM s.obs z = some o ∧ o'.flds = o.flds ∧ (o'.col = o.col ∨ o.col = 1 ∧ o'.col = 2)
theorem ShM.refl (s : StM) : ShM s s := ⟨fun z o h => ⟨o, h, rfl, .inl rfl⟩, fun z o h => ⟨o, h, rfl, .inl rfl⟩⟩
theorem ShM.trans {s t u : StM} (h1 : ShM s t) (h2 : ShM t u) : ShM s u := by
  refine ⟨fun z o h => ?_, fun z o h => ?_⟩
  · obtain ⟨o1, a1, a2, a3⟩ := h1.to z o h
    obtain ⟨o2, b1, b2, b3⟩ := h2.to z o1 a1
    refine ⟨o2, b1, b2.trans a2, ?_⟩
    rcases a3 with a3 | a3 <;> rcases b3 with b3 | b3
    · exact .inl (b3.trans a3)
    · exact .inr ⟨by omega, b3.2⟩
    · exact .inr ⟨a3.1, by omega⟩
    · omega
  · obtain ⟨o1, a1, a2, a3⟩ := h2.of z o h
    obtain ⟨o2, b1, b2, b3⟩ := h1.of z o1 a1
    refine ⟨o2, b1, a2.trans b2, ?_⟩
    rcases a3 with a3 | a3 <;> rcases b3 with b3 | b3
    · exact .inl (a3.trans b3)
    · exact .inr ⟨b3.1, by omega⟩
    · exact .inr ⟨by omega, a3.2⟩
    · omega
theorem ShM.shade (s : StM) (z : Int) : ShM s (s.shade z) := by
  rcases shade_cases s z with ⟨o, hg, hc⟩ | hn
  · rw [shade_some hg hc]
    have hz := (getM_le hg).1
    refine ⟨fun y x hx => ?_, fun y x hx => ?_⟩
    · show ∃ o', getM (setCol s.obs z 2) y = some o' ∧ _
      rw [getM_set hz]
      by_cases e : y = z
      · subst e
        rw [hg] at hx
        injection hx with hx
        subst hx
        rw [hg]
        exact ⟨{ o with col := 2 }, by simp, rfl, .inr ⟨hc, rfl⟩⟩
      · rw [if_neg e]
        exact ⟨x, hx, rfl, .inl rfl⟩
    · have hx : getM (setCol s.obs z 2) y = some x := hx
      rw [getM_set hz] at hx
      by_cases e : y = z
      · subst e
        rw [hg] at hx
        simp at hx
        subst hx
        exact ⟨o, hg, rfl, .inr ⟨hc, rfl⟩⟩
      · rw [if_neg e] at hx
        exact ⟨x, hx, rfl, .inl rfl⟩
  · rw [shade_none hn]; exact ShM.refl s
theorem ShM.shades (s : StM) : ∀ zs : List Int, ShM s (s.shades zs)
  | [] => ShM.refl s
  | z :: zs => by rw [shades_cons]; exact (ShM.shade s z).trans (ShM.shades _ zs)
/-- Behind shading, none of them is white. -/
theorem shades_done (s : StM) : ∀ (zs : List Int) (z : Int), z ∈ zs → ∀ o, getM (s.shades zs).obs z = some o → o.col ≠ 1
  | [], z, hz, _, _ => by simp at hz
  | y :: ys, z, hz, o, ho => by
    rw [shades_cons] at ho
    rcases List.mem_cons.1 hz with rfl | hz
    · obtain ⟨o1, a1, _, a3⟩ := (ShM.shades (s.shade z) ys).of z o ho
      have h1 : o1.col ≠ 1 := by
        rcases shade_cases s z with ⟨x, hg, hc⟩ | hn
        · rw [shade_some hg hc] at a1
          have a1 : getM (setCol s.obs z 2) z = some o1 := a1
          rw [getM_set (getM_le hg).1, if_pos rfl, hg] at a1
          simp at a1
          subst a1
          simp
        · rw [shade_none hn] at a1
          exact hn o1 a1
      rcases a3 with a3 | a3 <;> omega
    · exact shades_done (s.shade y) ys z hz o ho
/-- How many are white. -/
def whites (obs : List ObM) : Nat := (obs.filter fun o => o.there && decide (o.col = 1)).length
theorem whites_set : ∀ {obs : List ObM} {i : Nat} {o : ObM} {c : Int}, obs[i]? = some o → o.there = true → o.col = 1 → c ≠ 1 → whites (obs.modify i fun o => { o with col := c }) + 1 = whites obs
  | x :: obs, 0, o, c, h, ht, hc, hn => by
    simp at h
    subst h
    simp [whites, ht, hc, hn]
  | x :: obs, i + 1, o, c, h, ht, hc, hn => by
    have := whites_set (obs := obs) (i := i) (o := o) (c := c) (by simpa using h) ht hc hn
    unfold whites at this ⊢
    simp only [List.modify_succ_cons, List.filter_cons]
    split
    · simp only [List.length_cons]; omega
    · exact this
  | [], i, o, c, h, _, _, _ => by simp at h
theorem shade_weight (s : StM) (z : Int) : whites (s.shade z).obs + (s.shade z).row.length = whites s.obs + s.row.length := by
  rcases shade_cases s z with ⟨o, hg, hc⟩ | hn
  · rw [shade_some hg hc]
    have := whites_set (c := 2) (getM_some.1 hg).2.1 (getM_some.1 hg).2.2 hc (by omega)
    show whites (setCol s.obs z 2) + (s.row ++ [z]).length = _
    unfold setCol
    rw [List.length_append, List.length_singleton]
    omega
  · rw [shade_none hn]
theorem shades_weight (s : StM) : ∀ zs : List Int, whites (s.shades zs).obs + (s.shades zs).row.length = whites s.obs + s.row.length
  | [] => rfl
  | z :: zs => by rw [shades_cons, shades_weight, shade_weight]
theorem step1_cons {s : StM} {z : Int} {r : List Int} (h : s.row = z :: r) : s.step1 = { (({ s with row := r } : StM).shades (fldsM s.obs z)) with obs := setCol (({ s with row := r } : StM).shades (fldsM s.obs z)).obs z 3 } := by
  unfold StM.step1
  rw [h]
theorem whites_keep : ∀ {obs : List ObM} {i : Nat} {o : ObM} {c : Int}, obs[i]? = some o → o.col ≠ 1 → c ≠ 1 → whites (obs.modify i fun o => { o with col := c }) = whites obs
  | x :: obs, 0, o, c, h, hc, hn => by
    simp at h
    subst h
    simp [whites, hc, hn]
  | x :: obs, i + 1, o, c, h, hc, hn => by
    have := whites_keep (obs := obs) (i := i) (o := o) (c := c) (by simpa using h) hc hn
    unfold whites at this ⊢
    simp only [List.modify_succ_cons, List.filter_cons]
    split
    · simp only [List.length_cons]; omega
    · exact this
  | [], i, o, c, h, _, _ => by simp at h
/-- What holds while the first of the row, z, is looked at: it is grey, and not in the row. -/
structure InvZ (s : StM) (z : Int) : Prop where
  rl : s.roots.length = 8
  rr : ∀ r ∈ s.roots, 0 ≤ r ∧ r ≤ (s.obs.length : Int)
  fr : ∀ o ∈ s.obs, ∀ f ∈ o.flds, 0 ≤ f ∧ f ≤ (s.obs.length : Int)
  nd : s.row.Nodup
  zn : z ∉ s.row
  me : ∃ o, getM s.obs z = some o ∧ o.col = 2
  gr : ∀ y, y ∈ s.row ∨ y = z ↔ ∃ o, getM s.obs y = some o ∧ o.col = 2
  inn : ∀ y o, getM s.obs y = some o → o.col = 1 ∨ o.col = 2 ∨ o.col = 3
theorem InvM.cyc {s : StM} (h : InvM s) {z : Int} (hz : z ∈ s.row) : s.cyc = true := by
  cases hc : s.cyc with
  | true => rfl
  | false => rw [h.rest hc] at hz; simp at hz
theorem InvM.pop {s : StM} (h : InvM s) {z : Int} {r : List Int} (e : s.row = z :: r) : InvZ { s with row := r } z := by
  have hc := h.cyc (z := z) (by rw [e]; simp)
  have hnd := h.nd
  rw [e] at hnd
  have hn := List.nodup_cons.1 hnd
  refine ⟨h.rl, h.rr, h.fr, hn.2, hn.1, (h.gr z).1 (by rw [e]; simp), fun y => ?_, h.inn hc⟩
  have := h.gr y
  rw [e, List.mem_cons] at this
  rw [← this]
  exact Or.comm
theorem InvZ.shade {s : StM} {z : Int} (h : InvZ s z) (y : Int) : InvZ (s.shade y) z := by
  rcases shade_cases s y with ⟨o, hg, hc⟩ | hn
  · rw [shade_some hg hc]
    have hy := (getM_le hg).1
    have hyz : y ≠ z := fun q => by
      obtain ⟨o', h1, h2⟩ := h.me
      rw [← q, hg] at h1
      injection h1 with h1
      subst h1
      omega
    have hnot : y ∉ s.row := fun q => by
      obtain ⟨o', h1, h2⟩ := (h.gr y).1 (.inl q)
      rw [hg] at h1
      injection h1 with h1
      subst h1
      omega
    refine ⟨h.rl, fun r hr => by rw [setCol_length]; exact h.rr r hr, fun x hx f hf => ?_, ?_, ?_, ?_, fun u => ?_, fun u x hx => ?_⟩
    · rw [setCol_length]
      obtain ⟨x', hx', e⟩ := setCol_flds hx
      rw [e] at hf
      exact h.fr x' hx' f hf
    · exact List.nodup_append.2 ⟨h.nd, by simp, fun a ha b hb => by
        have : b = y := by simpa using hb
        subst this
        exact fun q => hnot (q ▸ ha)⟩
    · intro q
      rcases List.mem_append.1 q with q | q
      · exact h.zn q
      · exact hyz (by simpa using q : z = y).symm
    · show ∃ o, getM (setCol s.obs y 2) z = some o ∧ o.col = 2
      rw [getM_set hy, if_neg (fun q => hyz q.symm)]
      exact h.me
    · show u ∈ s.row ++ [y] ∨ u = z ↔ ∃ o, getM (setCol s.obs y 2) u = some o ∧ o.col = 2
      rw [getM_set hy]
      by_cases e : u = y
      · subst e
        rw [hg]
        simp
      · rw [if_neg e, ← h.gr u]
        simp [e]
    · have hx : getM (setCol s.obs y 2) u = some x := hx
      rw [getM_set hy] at hx
      by_cases e : u = y
      · subst e
        rw [hg] at hx
        simp at hx
        subst hx
        exact .inr (.inl rfl)
      · rw [if_neg e] at hx
        exact h.inn u x hx
  · rw [shade_none hn]; exact h
theorem InvZ.shades {s : StM} {z : Int} (h : InvZ s z) : ∀ zs : List Int, InvZ (s.shades zs) z
  | [] => h
  | y :: ys => by rw [shades_cons]; exact (h.shade y).shades ys
theorem InvZ.black {s : StM} {z : Int} (h : InvZ s z) (hc : s.cyc = true) : InvM { s with obs := setCol s.obs z 3 } := by
  obtain ⟨o, hg, ho⟩ := h.me
  have hz := (getM_le hg).1
  refine ⟨h.rl, fun r hr => by rw [setCol_length]; exact h.rr r hr, fun x hx f hf => ?_, h.nd, fun u => ?_, fun q => ?_, fun q u x hx => ?_⟩
  · rw [setCol_length]
    obtain ⟨x', hx', e⟩ := setCol_flds hx
    rw [e] at hf
    exact h.fr x' hx' f hf
  · show u ∈ s.row ↔ ∃ o, getM (setCol s.obs z 3) u = some o ∧ o.col = 2
    rw [getM_set hz]
    by_cases e : u = z
    · subst e
      rw [hg]
      simp [h.zn]
    · rw [if_neg e, ← h.gr u]
      simp [e]
  · rw [hc] at q; cases q
  · have hx : getM (setCol s.obs z 3) u = some x := hx
    rw [getM_set hz] at hx
    by_cases e : u = z
    · subst e
      rw [hg] at hx
      simp at hx
      subst hx
      exact .inr (.inr rfl)
    · rw [if_neg e] at hx
      exact h.inn u x hx
theorem InvM.step1 {s : StM} (h : InvM s) : InvM s.step1 := by
  cases e : s.row with
  | nil => unfold StM.step1; rw [e]; exact h
  | cons z r =>
    rw [step1_cons e]
    have hc := h.cyc (z := z) (by rw [e]; simp)
    exact ((h.pop e).shades _).black (by rw [(shades_frame _ _).2.2.1]; exact hc)
theorem step1_weight {s : StM} (h : InvM s) {z : Int} {r : List Int} (e : s.row = z :: r) : whites s.step1.obs + s.step1.row.length + 1 = whites s.obs + s.row.length := by
  rw [step1_cons e]
  have h1 := (h.pop e).shades (fldsM s.obs z)
  obtain ⟨o, hg, ho⟩ := h1.me
  have h2 := whites_keep (c := 3) (getM_some.1 hg).2.1 (by omega) (by omega)
  have h3 := shades_weight ({ s with row := r } : StM) (fldsM s.obs z)
  show whites (setCol (({ s with row := r } : StM).shades (fldsM s.obs z)).obs z 3) + (({ s with row := r } : StM).shades (fldsM s.obs z)).row.length + 1 = _
  unfold setCol
  rw [h2, e, List.length_cons]
  have h4 : whites ({ s with row := r } : StM).obs + ({ s with row := r } : StM).row.length = whites s.obs + r.length := rfl
  omega
theorem InvM.steps {s : StM} (h : InvM s) : ∀ n, InvM (StM.steps n s)
  | 0 => h
  | n + 1 => by
    unfold StM.steps
    cases s.row with
    | nil => exact h
    | cons z r => exact InvM.steps h.step1 n
/-- Steps enough leave nothing grey. -/
theorem steps_enough : ∀ (n : Nat) (s : StM), InvM s → whites s.obs + s.row.length ≤ n → (StM.steps n s).row = []
  | 0, s, h, hn => by
    have : s.row.length = 0 := by omega
    exact List.eq_nil_of_length_eq_zero this
  | n + 1, s, h, hn => by
    unfold StM.steps
    cases e : s.row with
    | nil => exact e
    | cons z r =>
      refine steps_enough n s.step1 h.step1 ?_
      have := step1_weight h e
      omega
theorem steps_more : ∀ (n m : Nat) (s : StM), (StM.steps n s).row = [] → n ≤ m → StM.steps m s = StM.steps n s
  | 0, m, s, h, hn => by
    have h : s.row = [] := h
    cases m with
    | zero => rfl
    | succ m => show StM.steps (m + 1) s = s; unfold StM.steps; rw [h]
  | n + 1, 0, s, h, hn => by omega
  | n + 1, m + 1, s, h, hn => by
    unfold StM.steps at h ⊢
    cases e : s.row with
    | nil => rfl
    | cons z r =>
      rw [e] at h
      exact steps_more n m s.step1 h (by omega)
theorem whites_le (obs : List ObM) : whites obs ≤ obs.length := List.length_filter_le _ _
theorem steps_frame : ∀ (n : Nat) (s : StM), (StM.steps n s).mode = s.mode ∧ (StM.steps n s).roots = s.roots ∧ (StM.steps n s).cyc = s.cyc ∧ (StM.steps n s).obs.length = s.obs.length
  | 0, s => ⟨rfl, rfl, rfl, rfl⟩
  | n + 1, s => by
    unfold StM.steps
    cases e : s.row with
    | nil => exact ⟨rfl, rfl, rfl, rfl⟩
    | cons z r =>
      have h := steps_frame n s.step1
      have hs := shades_frame ({ s with row := r } : StM) (fldsM s.obs z)
      have h1 : s.step1.mode = s.mode ∧ s.step1.roots = s.roots ∧ s.step1.cyc = s.cyc ∧ s.step1.obs.length = s.obs.length := by
        rw [step1_cons e]
        exact ⟨hs.1, hs.2.1, hs.2.2.1, by rw [← hs.2.2.2]; exact setCol_length _ _ _⟩
      exact ⟨h.1.trans h1.1, h.2.1.trans h1.2.1, h.2.2.1.trans h1.2.2.1, h.2.2.2.trans h1.2.2.2⟩
end Go.Proofs.Ytchcdlelaklnnaa

/- Marking meanwhile: cycles and ops over the plain state. -/
namespace Go.Proofs.Ytchcdlelaklnnaa
set_option linter.unusedVariables false
def paintM (obs : List ObM) (c : Int) : List ObM := obs.map fun o => if o.there then { o with col := c } else o
theorem paintM_length (obs : List ObM) (c : Int) : (paintM obs c).length = obs.length := by simp [paintM]
theorem getM_paint (obs : List ObM) (c z : Int) : getM (paintM obs c) z = (getM obs z).map fun o => { o with col := c } := by
  unfold getM paintM
  split
  · rw [List.getElem?_map]
    cases obs[z.toNat - 1]? with
    | none => rfl
    | some o => cases ho : o.there <;> simp [ho]
  · rfl
theorem paintM_flds {obs : List ObM} {c : Int} {o : ObM} (h : o ∈ paintM obs c) : ∃ o' ∈ obs, o.flds = o'.flds := by
  obtain ⟨x, hx, rfl⟩ := List.mem_map.1 h
  exact ⟨x, hx, by split <;> rfl⟩
def StM.begin (s : StM) : StM := ({ s with obs := paintM s.obs 1, cyc := true } : StM).shades s.roots
theorem InvM.begin {s : StM} (h : InvM s) (hc : s.cyc = false) : InvM s.begin := by
  suffices hp : InvM ({ s with obs := paintM s.obs 1, cyc := true } : StM) from hp.shades _
  refine ⟨h.rl, fun r hr => by show 0 ≤ r ∧ r ≤ ((paintM s.obs 1).length : Int); rw [paintM_length]; exact h.rr r hr, fun o ho f hf => ?_, h.nd, fun z => ?_, (fun q => by cases q), fun _ z o ho => ?_⟩
  · show 0 ≤ f ∧ f ≤ ((paintM s.obs 1).length : Int)
    rw [paintM_length]
    obtain ⟨x, hx, e⟩ := paintM_flds ho
    rw [e] at hf
    exact h.fr x hx f hf
  · show z ∈ s.row ↔ ∃ o, getM (paintM s.obs 1) z = some o ∧ o.col = 2
    rw [h.rest hc, getM_paint]
    constructor
    · intro q; simp at q
    · rintro ⟨o, h1, h2⟩
      cases hg : getM s.obs z with
      | none => rw [hg] at h1; cases h1
      | some x => rw [hg] at h1; simp at h1; subst h1; simp at h2
  · have ho : getM (paintM s.obs 1) z = some o := ho
    rw [getM_paint] at ho
    cases hg : getM s.obs z with
    | none => rw [hg] at ho; cases ho
    | some x => rw [hg] at ho; simp at ho; subst ho; exact .inl rfl
/-- What goes, by ids; what stays. -/
def goneM (obs : List ObM) : List Int := ((List.range obs.length).filter fun i => ((obs[i]?).map fun o => o.there && decide (o.col = 1)).getD false).map fun (i : Nat) => (i : Int) + 1
def sweepM (obs : List ObM) : List ObM := obs.map fun o => if o.there then (if o.col = 1 then { o with there := false } else { o with col := 0 }) else o
theorem sweepM_length (obs : List ObM) : (sweepM obs).length = obs.length := by simp [sweepM]
theorem getM_sweep {obs : List ObM} {z : Int} {o : ObM} : getM (sweepM obs) z = some o ↔ ∃ x, getM obs z = some x ∧ x.col ≠ 1 ∧ o = { x with col := 0 } := by
  unfold getM sweepM
  split
  · rw [List.getElem?_map]
    cases obs[z.toNat - 1]? with
    | none => simp
    | some x =>
      cases ho : x.there
      · simp [ho]
      · by_cases hc : x.col = 1
        · simp [ho, hc]
        · simp only [Option.map_some, ho, hc, if_true, if_false, Option.some.injEq]
          constructor
          · rintro rfl; exact ⟨x, rfl, hc, by rw [ho]⟩
          · rintro ⟨y, rfl, _, rfl⟩; rw [ho]
  · simp
theorem sweepM_flds {obs : List ObM} {o : ObM} (h : o ∈ sweepM obs) : ∃ o' ∈ obs, o.flds = o'.flds := by
  obtain ⟨x, hx, rfl⟩ := List.mem_map.1 h
  refine ⟨x, hx, ?_⟩
  split
  · split <;> rfl
  · rfl
def StM.drained (s : StM) : StM := StM.steps 400 (if s.mode = 2 then s.shades s.roots else s)
def StM.fin (s : StM) : StM := { s.drained with obs := sweepM s.drained.obs, cyc := false }
theorem InvM.pre {s : StM} (h : InvM s) : InvM (if s.mode = 2 then s.shades s.roots else s) := by
  split
  · exact h.shades _
  · exact h
theorem InvM.drained {s : StM} (h : InvM s) : InvM s.drained := h.pre.steps 400
theorem pre_frame (s : StM) : (if s.mode = 2 then s.shades s.roots else s).obs.length = s.obs.length ∧ (if s.mode = 2 then s.shades s.roots else s).roots = s.roots := by
  split
  · exact ⟨(shades_frame _ _).2.2.2, (shades_frame _ _).2.1⟩
  · exact ⟨rfl, rfl⟩
theorem filter_len {α : Type} (p : α → Bool) : ∀ l : List α, (l.filter p).length + (l.filter fun x => !p x).length = l.length
  | [] => rfl
  | x :: l => by
    have := filter_len p l
    rw [List.filter_cons, List.filter_cons]
    cases p x <;> simp <;> omega
/-- The row is no longer than what is not white any more. -/
theorem InvM.weight {s : StM} (h : InvM s) : whites s.obs + s.row.length ≤ s.obs.length := by
  have key : ∀ (row : List Int) (obs : List ObM), row.Nodup → (∀ z ∈ row, ∃ o, getM obs z = some o ∧ o.col ≠ 1) → whites obs + row.length ≤ obs.length := by
    intro row obs hn hr
    have h1 : whites obs + (obs.filter fun o => !(o.there && decide (o.col = 1))).length = obs.length := by
      unfold whites
      exact filter_len (fun o => o.there && decide (o.col = 1)) obs
    have h2 : row.length ≤ (obs.filter fun o => !(o.there && decide (o.col = 1))).length := by
      have e : (obs.filter fun o => !(o.there && decide (o.col = 1))).length = ((List.range obs.length).filter fun i => ((obs[i]?).map fun o => !(o.there && decide (o.col = 1))).getD false).length := by
        clear h1 hr hn
        induction obs with
        | nil => rfl
        | cons x obs ih =>
          rw [List.length_cons, List.range_succ_eq_map, List.filter_cons, List.filter_cons, List.filter_map]
          simp only [List.getElem?_cons_zero, Option.map_some, Option.getD_some]
          have e2 : ((List.range obs.length).filter ((fun i => (((x :: obs)[i]?).map fun o => !(o.there && decide (o.col = 1))).getD false) ∘ Nat.succ)).length = ((List.range obs.length).filter fun i => ((obs[i]?).map fun o => !(o.there && decide (o.col = 1))).getD false).length := by
            congr 1
          split
          · rw [List.length_cons, List.length_cons, List.length_map, e2, ih]
          · rw [List.length_map, e2, ih]
      rw [e]
      have h3 : (row.map fun z => z.toNat - 1).length ≤ _ := nodup_lenN (m := (List.range obs.length).filter fun i => ((obs[i]?).map fun o => !(o.there && decide (o.col = 1))).getD false) ?_ ?_
      · simpa using h3
      · refine List.pairwise_map.2 (hn.imp_of_mem fun {a b} ha hb hab => ?_)
        obtain ⟨o, ho, _⟩ := hr a ha
        obtain ⟨o', ho', _⟩ := hr b hb
        have := (getM_le ho).1
        have := (getM_le ho').1
        omega
      · intro i hi
        obtain ⟨z, hz, rfl⟩ := List.mem_map.1 hi
        obtain ⟨o, ho, hc⟩ := hr z hz
        obtain ⟨a1, a2, a3⟩ := getM_some.1 ho
        have := (List.getElem?_eq_some_iff.1 a2).1
        rw [List.mem_filter, List.mem_range]
        refine ⟨this, ?_⟩
        rw [a2]
        simp [hc]
    omega
  refine key _ _ h.nd fun z hz => ?_
  obtain ⟨o, h1, h2⟩ := (h.gr z).1 hz
  exact ⟨o, h1, by omega⟩
theorem InvM.empty {s : StM} (h : InvM s) (hl : s.obs.length ≤ 400) : s.drained.row = [] := by
  refine steps_enough 400 _ h.pre ?_
  have := h.pre.weight
  have := (pre_frame s).1
  omega
theorem InvM.fin {s : StM} (h : InvM s) (hl : s.obs.length ≤ 400) : InvM s.fin := by
  have hd := h.drained
  have he := h.empty hl
  refine ⟨hd.rl, fun r hr => by show 0 ≤ r ∧ r ≤ ((sweepM s.drained.obs).length : Int); rw [sweepM_length]; exact hd.rr r hr, fun o ho f hf => ?_, hd.nd, fun z => ?_, fun _ z o ho => ?_, fun q => by cases q⟩
  · show 0 ≤ f ∧ f ≤ ((sweepM s.drained.obs).length : Int)
    rw [sweepM_length]
    obtain ⟨x, hx, e⟩ := sweepM_flds ho
    rw [e] at hf
    exact hd.fr x hx f hf
  · show z ∈ s.drained.row ↔ ∃ o, getM (sweepM s.drained.obs) z = some o ∧ o.col = 2
    rw [he]
    constructor
    · intro q; simp at q
    · rintro ⟨o, h1, h2⟩
      obtain ⟨x, _, _, rfl⟩ := getM_sweep.1 h1
      simp at h2
  · obtain ⟨x, _, _, rfl⟩ := getM_sweep.1 ho
    rfl
end Go.Proofs.Ytchcdlelaklnnaa

/- Marking meanwhile: ops over the plain state. -/
namespace Go.Proofs.Ytchcdlelaklnnaa
set_option linter.unusedVariables false
structure OpM where
  kind : Int
  a : Int
  b : Int
  c : Int
structure AnsM where
  code : Int
  n : Int
  grey : Int
  gone : List Int
def isR (n : Int) : Bool := decide (0 ≤ n) && decide (n < 8)
theorem isR_iff {n : Int} : isR n = true ↔ 0 ≤ n ∧ n < 8 := by simp [isR]
def okM (s : StM) (op : OpM) : Bool :=
  if op.kind = 1 then isR op.a && (decide (0 ≤ op.b) && decide (op.b ≤ 6)) && decide ((s.obs.length : Int) < 400)
  else if op.kind = 2 ∨ op.kind = 3 ∨ op.kind = 4 then isR op.a && isR op.b
  else if op.kind = 5 then isR op.a
  else if op.kind = 7 then decide (0 ≤ op.a) && decide (op.a ≤ 100)
  else decide (op.kind = 6) || decide (op.kind = 8)
def rootM (s : StM) (n : Int) : Int := s.roots.getD n.toNat 0
def setR (s : StM) (n z : Int) : StM := { s with roots := s.roots.set n.toNat z }
def fcodeM (s : StM) (z c : Int) : Int :=
  match getM s.obs z with
  | none => 2
  | some o => if 0 ≤ c ∧ c < (o.flds.length : Int) then 0 else 3
def codeM (s : StM) (op : OpM) : Int :=
  if okM s op = false then 1
  else if op.kind = 2 then fcodeM s (rootM s op.b) op.c
  else if op.kind = 3 then fcodeM s (rootM s op.a) op.c
  else if 6 ≤ op.kind ∧ s.cyc = decide (op.kind = 6) then 4
  else 0
def fieldM (s : StM) (z c : Int) : Int := (fldsM s.obs z).getD c.toNat 0
def setF (obs : List ObM) (z c v : Int) : List ObM := obs.modify (z.toNat - 1) fun o => { o with flds := o.flds.set c.toNat v }
def colM (s : StM) (z : Int) : Int := ((getM s.obs z).map ObM.col).getD 0
def barM (s : StM) (z c v : Int) : StM := if s.mode = 1 then s.shade (fieldM s z c) else if colM s z = 3 then s.shade v else s
def putM (s : StM) (z c v : Int) : StM := { barM s z c v with obs := setF (barM s z c v).obs z c v }
def makeM (s : StM) (n k : Int) : StM := { s with obs := s.obs ++ [⟨List.replicate k.toNat 0, if s.cyc then 3 else 0, true⟩], roots := s.roots.set n.toNat ((s.obs.length : Int) + 1) }
def actM (s : StM) (op : OpM) : StM :=
  if op.kind = 1 then makeM s op.a op.b
  else if op.kind = 2 then setR s op.a (fieldM s (rootM s op.b) op.c)
  else if op.kind = 3 then putM s (rootM s op.a) op.c (rootM s op.b)
  else if op.kind = 4 then setR s op.a (rootM s op.b)
  else if op.kind = 5 then setR s op.a 0
  else if op.kind = 6 then s.begin
  else if op.kind = 7 then StM.steps op.a.toNat s
  else s.fin
def doM (s : StM) (op : OpM) : StM := if codeM s op = 0 then actM s op else s
def ansM (s : StM) (op : OpM) : AnsM := ⟨codeM s op, if codeM s op = 0 ∧ op.kind < 6 then rootM (doM s op) op.a else 0, (doM s op).row.length, if codeM s op = 0 ∧ op.kind = 8 then goneM s.drained.obs else []⟩
def newM (mode : Int) : StM := ⟨mode, [], List.replicate 8 0, false, []⟩
def runM (s : StM) (ops : List OpM) : StM := ops.foldl doM s
def ansL : StM → List OpM → List AnsM
  | _, [] => []
  | s, op :: ops => ansM s op :: ansL (doM s op) ops
theorem InvM.new (mode : Int) : InvM (newM mode) :=
  ⟨by simp [newM], fun r hr => by simp [newM] at hr; simp [newM, hr], fun o ho => by simp [newM] at ho, List.nodup_nil, fun z => by simp [newM, getM], fun _ z o h => by simp [newM, getM] at h, fun q => by simp [newM] at q⟩
theorem rootM_rng {s : StM} (h : InvM s) (n : Int) : 0 ≤ rootM s n ∧ rootM s n ≤ (s.obs.length : Int) := by
  unfold rootM
  rw [List.getD_eq_getElem?_getD]
  cases e : s.roots[n.toNat]? with
  | none => simp
  | some r => exact h.rr r (List.mem_of_getElem? e)
theorem InvM.setR {s : StM} (h : InvM s) (n z : Int) (hz : 0 ≤ z ∧ z ≤ (s.obs.length : Int)) : InvM (setR s n z) := by
  refine ⟨by simp [Go.Proofs.Ytchcdlelaklnnaa.setR, h.rl], fun r hr => ?_, h.fr, h.nd, h.gr, h.out, h.inn⟩
  rcases List.mem_or_eq_of_mem_set hr with q | rfl
  · exact h.rr r q
  · exact hz
theorem fieldM_rng {s : StM} (h : InvM s) (z c : Int) : 0 ≤ fieldM s z c ∧ fieldM s z c ≤ (s.obs.length : Int) := by
  unfold fieldM fldsM
  rw [List.getD_eq_getElem?_getD]
  cases e : getM s.obs z with
  | none => simp
  | some o =>
    simp only [Option.map_some, Option.getD_some]
    cases e2 : o.flds[c.toNat]? with
    | none => simp
    | some f => exact h.fr o (getM_mem e) f (List.mem_of_getElem? e2)
theorem getM_setF {obs : List ObM} {z c v : Int} (hz : 1 ≤ z) (y : Int) : getM (setF obs z c v) y = if y = z then (getM obs y).map (fun o => { o with flds := o.flds.set c.toNat v }) else getM obs y := by
  by_cases hy : 1 ≤ y
  · unfold getM setF
    rw [if_pos hy, if_pos hy, List.getElem?_modify]
    by_cases e : y = z
    · subst e
      simp only [if_true]
      cases obs[y.toNat - 1]? with
      | none => simp
      | some x => cases hx : x.there <;> simp [hx]
    · have h1 : ¬ (z.toNat - 1 = y.toNat - 1) := by omega
      rw [if_neg e]
      cases obs[y.toNat - 1]? <;> simp [h1]
  · unfold getM
    rw [if_neg hy, if_neg hy]
    by_cases e : y = z
    · omega
    · rw [if_neg e]
theorem setF_length (obs : List ObM) (z c v : Int) : (setF obs z c v).length = obs.length := by simp [setF]
theorem setF_flds {obs : List ObM} {z c v : Int} {o : ObM} (h : o ∈ setF obs z c v) : ∃ o' ∈ obs, ∀ f ∈ o.flds, f ∈ o'.flds ∨ f = v := by
  obtain ⟨i, hi, rfl⟩ := List.mem_iff_getElem.1 h
  have hi' : i < obs.length := by rw [setF_length] at hi; exact hi
  refine ⟨obs[i], List.getElem_mem _, fun f hf => ?_⟩
  simp only [setF, List.getElem_modify] at hf
  split at hf
  · exact List.mem_or_eq_of_mem_set hf
  · exact .inl hf
theorem InvM.bar {s : StM} (h : InvM s) (z c v : Int) : InvM (barM s z c v) := by
  unfold barM
  split
  · exact h.shade _
  · split
    · exact h.shade _
    · exact h
theorem bar_frame (s : StM) (z c v : Int) : (barM s z c v).mode = s.mode ∧ (barM s z c v).roots = s.roots ∧ (barM s z c v).cyc = s.cyc ∧ (barM s z c v).obs.length = s.obs.length := by
  unfold barM
  split
  · exact shade_frame _ _
  · split
    · exact shade_frame _ _
    · exact ⟨rfl, rfl, rfl, rfl⟩
theorem InvM.put {s : StM} (h : InvM s) {z c v : Int} (hz : 1 ≤ z) (hv : 0 ≤ v ∧ v ≤ (s.obs.length : Int)) : InvM (putM s z c v) := by
  have hb := h.bar z c v
  have hf := bar_frame s z c v
  unfold putM
  generalize barM s z c v = t at hb hf
  rw [← hf.2.2.2] at hv
  refine ⟨hb.rl, fun r hr => by show 0 ≤ r ∧ r ≤ ((setF t.obs z c v).length : Int); rw [setF_length]; exact hb.rr r hr, fun o ho f hfo => ?_, hb.nd, fun y => ?_, fun q y o ho => ?_, fun q y o ho => ?_⟩
  · show 0 ≤ f ∧ f ≤ ((setF t.obs z c v).length : Int)
    rw [setF_length]
    obtain ⟨o', ho', hh⟩ := setF_flds ho
    rcases hh f hfo with q | rfl
    · exact hb.fr o' ho' f q
    · exact hv
  · show y ∈ t.row ↔ ∃ o, getM (setF t.obs z c v) y = some o ∧ o.col = 2
    rw [hb.gr y, getM_setF hz]
    by_cases e : y = z
    · subst e
      rw [if_pos rfl]
      cases getM t.obs y <;> simp
    · rw [if_neg e]
  · have ho : getM (setF t.obs z c v) y = some o := ho
    rw [getM_setF hz] at ho
    by_cases e : y = z
    · subst e
      rw [if_pos rfl] at ho
      cases hg : getM t.obs y with
      | none => rw [hg] at ho; cases ho
      | some x => rw [hg] at ho; simp at ho; subst ho; exact hb.out q y x hg
    · rw [if_neg e] at ho
      exact hb.out q y o ho
  · have ho : getM (setF t.obs z c v) y = some o := ho
    rw [getM_setF hz] at ho
    by_cases e : y = z
    · subst e
      rw [if_pos rfl] at ho
      cases hg : getM t.obs y with
      | none => rw [hg] at ho; cases ho
      | some x => rw [hg] at ho; simp at ho; subst ho; exact hb.inn q y x hg
    · rw [if_neg e] at ho
      exact hb.inn q y o ho
theorem getM_app {obs : List ObM} {x : ObM} (hx : x.there = true) (z : Int) : getM (obs ++ [x]) z = if z = (obs.length : Int) + 1 then some x else getM obs z := by
  unfold getM
  by_cases h1 : 1 ≤ z
  · rw [if_pos h1, if_pos h1]
    by_cases e : z = (obs.length : Int) + 1
    · have e2 : z.toNat - 1 = obs.length := by omega
      rw [if_pos e, e2, List.getElem?_append_right (Nat.le_refl _)]
      simp [hx]
    · rw [if_neg e]
      by_cases h2 : z.toNat - 1 < obs.length
      · rw [List.getElem?_append_left h2]
      · rw [List.getElem?_eq_none (by simp; omega), List.getElem?_eq_none (by omega)]
  · rw [if_neg h1, if_neg h1, if_neg (by omega)]
theorem InvM.make {s : StM} (h : InvM s) (n k : Int) : InvM (makeM s n k) := by
  have hl : ((makeM s n k).obs.length : Int) = (s.obs.length : Int) + 1 := by simp [makeM]
  have hget : ∀ z, getM (makeM s n k).obs z = if z = (s.obs.length : Int) + 1 then some ⟨List.replicate k.toNat 0, if s.cyc then 3 else 0, true⟩ else getM s.obs z := fun z => getM_app rfl z
  refine ⟨by simp [makeM, h.rl], fun r hr => ?_, fun o ho f hf => ?_, h.nd, fun z => ?_, fun q z o ho => ?_, fun q z o ho => ?_⟩
  · rw [hl]
    rcases List.mem_or_eq_of_mem_set hr with q | rfl
    · have := h.rr r q; omega
    · omega
  · rw [hl]
    rcases List.mem_append.1 ho with q | q
    · have := h.fr o q f hf; omega
    · have e : o = ⟨List.replicate k.toNat 0, if s.cyc then 3 else 0, true⟩ := by simpa using q
      subst e
      have := (List.mem_replicate.1 hf).2
      omega
  · show z ∈ s.row ↔ _
    rw [h.gr z, hget]
    by_cases e : z = (s.obs.length : Int) + 1
    · rw [if_pos e]
      constructor
      · rintro ⟨o, h1, _⟩
        have := (getM_le h1).2
        omega
      · rintro ⟨o, h1, h2⟩
        injection h1 with h1
        subst h1
        cases hc : s.cyc <;> simp [hc] at h2
    · rw [if_neg e]
  · rw [hget] at ho
    have q : s.cyc = false := q
    split at ho
    · injection ho with ho
      subst ho
      simp [q]
    · exact h.out q z o ho
  · rw [hget] at ho
    have q : s.cyc = true := q
    split at ho
    · injection ho with ho
      subst ho
      simp
    · exact h.inn q z o ho
end Go.Proofs.Ytchcdlelaklnnaa

/- Marking meanwhile: no cycle takes what is reached: the plain theorem. -/
namespace Go.Proofs.Ytchcdlelaklnnaa
set_option linter.unusedVariables false
/-- What is reached. -/
inductive ReachM (s : StM) : Int → Prop
  | root {z : Int} {o : ObM} : z ∈ s.roots → getM s.obs z = some o → ReachM s z
  | step {y z : Int} {x o : ObM} : ReachM s y → getM s.obs y = some x → z ∈ x.flds → getM s.obs z = some o → ReachM s z
/-- What leads on from something grey through white ones. -/
inductive WP (s : StM) : Int → Prop
  | grey {z : Int} {o : ObM} : getM s.obs z = some o → o.col = 2 → WP s z
  | white {y z : Int} {x o : ObM} : WP s y → getM s.obs y = some x → z ∈ x.flds → getM s.obs z = some o → o.col = 1 → WP s z
/-- With ModeStart: what is reached and white is led to from something grey. -/
def JM (s : StM) : Prop := ∀ z, ReachM s z → ∀ o, getM s.obs z = some o → o.col = 1 → WP s z
/-- With ModeStore: what is black leads to nothing white. -/
def KM (s : StM) : Prop := ∀ y x, getM s.obs y = some x → x.col = 3 → ∀ f ∈ x.flds, ∀ o, getM s.obs f = some o → o.col ≠ 1
theorem ReachM.there {s : StM} {z : Int} (h : ReachM s z) : ∃ o, getM s.obs z = some o := by
  cases h with
  | root _ h => exact ⟨_, h⟩
  | step _ _ _ h => exact ⟨_, h⟩
theorem ReachM.sh {s t : StM} (h : ShM s t) (hr : t.roots = s.roots) {z : Int} (hz : ReachM t z) : ReachM s z := by
  induction hz with
  | root h1 h2 =>
    obtain ⟨o, a, _⟩ := h.of _ _ h2
    exact .root (by rw [← hr]; exact h1) a
  | step _ h2 h3 h4 ih =>
    obtain ⟨x, a, b, _⟩ := h.of _ _ h2
    obtain ⟨o, c, _⟩ := h.of _ _ h4
    exact .step ih a (by rw [← b]; exact h3) c
theorem ReachM.hs {s t : StM} (h : ShM s t) (hr : t.roots = s.roots) {z : Int} (hz : ReachM s z) : ReachM t z := by
  induction hz with
  | root h1 h2 =>
    obtain ⟨o, a, _⟩ := h.to _ _ h2
    exact .root (by rw [hr]; exact h1) a
  | step _ h2 h3 h4 ih =>
    obtain ⟨x, a, b, _⟩ := h.to _ _ h2
    obtain ⟨o, c, _⟩ := h.to _ _ h4
    exact .step ih a (by rw [b]; exact h3) c
theorem WP.sh {s t : StM} (h : ShM s t) {z : Int} (hz : WP s z) : WP t z := by
  induction hz with
  | grey h1 h2 =>
    obtain ⟨o, a, _, c⟩ := h.to _ _ h1
    exact .grey a (by rcases c with c | c <;> omega)
  | white _ h2 h3 h4 h5 ih =>
    obtain ⟨x, a, b, _⟩ := h.to _ _ h2
    obtain ⟨o, c, _, d⟩ := h.to _ _ h4
    rcases d with d | d
    · exact .white ih a (by rw [b]; exact h3) c (by omega)
    · exact .grey c d.2
theorem JM.sh {s t : StM} (h : ShM s t) (hr : t.roots = s.roots) (hj : JM s) : JM t := fun z hz o ho hc => by
  obtain ⟨x, a, _, c⟩ := h.of z o ho
  exact (hj z (hz.sh h hr) x a (by rcases c with c | c <;> omega)).sh h
theorem KM.sh {s t : StM} (h : ShM s t) (hk : KM s) : KM t := fun y x hx hc f hf o ho => by
  obtain ⟨x', a, b, c⟩ := h.of y x hx
  obtain ⟨o', a', _, c'⟩ := h.of f o ho
  have := hk y x' a (by rcases c with c | c <;> omega) f (by rw [← b]; exact hf) o' a'
  rcases c' with c' | c' <;> omega
theorem fldsM_some {obs : List ObM} {z : Int} {o : ObM} (h : getM obs z = some o) : fldsM obs z = o.flds := by simp [fldsM, h]
/-- A step, seen whole. -/
theorem step1_get {s : StM} (h : InvM s) {z : Int} {r : List Int} (e : s.row = z :: r) :
    (∀ y x, getM s.obs y = some x → ∃ x', getM s.step1.obs y = some x' ∧ x'.flds = x.flds ∧ (y = z ∧ x'.col = 3 ∨ y ≠ z ∧ (x'.col = x.col ∨ x.col = 1 ∧ x'.col = 2))) ∧
    (∀ y x', getM s.step1.obs y = some x' → ∃ x, getM s.obs y = some x ∧ x'.flds = x.flds ∧ (y = z ∧ x'.col = 3 ∨ y ≠ z ∧ (x'.col = x.col ∨ x.col = 1 ∧ x'.col = 2))) ∧
    (∀ o, getM s.obs z = some o → ∀ f ∈ o.flds, ∀ x', getM s.step1.obs f = some x' → x'.col ≠ 1) ∧ s.step1.roots = s.roots ∧ s.step1.cyc = s.cyc ∧ s.step1.mode = s.mode ∧ s.step1.obs.length = s.obs.length := by
  have hsh := ShM.shades ({ s with row := r } : StM) (fldsM s.obs z)
  have hfr := shades_frame ({ s with row := r } : StM) (fldsM s.obs z)
  have hdn := shades_done ({ s with row := r } : StM) (fldsM s.obs z)
  have hme := ((h.pop e).shades (fldsM s.obs z)).me
  rw [step1_cons e]
  generalize ({ s with row := r } : StM).shades (fldsM s.obs z) = t at hsh hfr hdn hme
  obtain ⟨om, hm, hmc⟩ := hme
  have hz := (getM_le hm).1
  have g : ∀ y, getM (setCol t.obs z 3) y = if y = z then (getM t.obs y).map (fun o => { o with col := 3 }) else getM t.obs y := fun y => getM_set hz y
  refine ⟨fun y x hx => ?_, fun y x hx => ?_, fun o ho f hf x hx => ?_, hfr.2.1, hfr.2.2.1, hfr.1, by show (setCol t.obs z 3).length = _; rw [setCol_length]; exact hfr.2.2.2⟩
  · obtain ⟨x1, a, b, c⟩ := hsh.to y x hx
    show ∃ x', getM (setCol t.obs z 3) y = some x' ∧ _
    rw [g]
    by_cases q : y = z
    · rw [if_pos q, a]
      exact ⟨{ x1 with col := 3 }, rfl, b, .inl ⟨q, rfl⟩⟩
    · rw [if_neg q]
      exact ⟨x1, a, b, .inr ⟨q, c⟩⟩
  · have hx : getM (setCol t.obs z 3) y = some x := hx
    rw [g] at hx
    by_cases q : y = z
    · rw [if_pos q] at hx
      cases ht : getM t.obs y with
      | none => rw [ht] at hx; cases hx
      | some x1 =>
        rw [ht] at hx
        simp at hx
        subst hx
        obtain ⟨x0, a, b, c⟩ := hsh.of y x1 ht
        exact ⟨x0, a, b, .inl ⟨q, rfl⟩⟩
    · rw [if_neg q] at hx
      obtain ⟨x0, a, b, c⟩ := hsh.of y x hx
      exact ⟨x0, a, b, .inr ⟨q, c⟩⟩
  · have hx : getM (setCol t.obs z 3) f = some x := hx
    rw [g] at hx
    by_cases q : f = z
    · rw [if_pos q] at hx
      cases ht : getM t.obs f with
      | none => rw [ht] at hx; cases hx
      | some x1 => rw [ht] at hx; simp at hx; subst hx; simp
    · rw [if_neg q] at hx
      exact hdn f (by rw [fldsM_some ho]; exact hf) x hx
theorem JM.step1 {s : StM} (h : InvM s) (hj : JM s) : JM s.step1 := by
  cases e : s.row with
  | nil => unfold StM.step1; rw [e]; exact hj
  | cons z r =>
    obtain ⟨g1, g2, g3, g4, _⟩ := step1_get h e
    have hre : ∀ y, ReachM s.step1 y → ReachM s y := fun y hy => by
      induction hy with
      | root h1 h2 =>
        obtain ⟨o, a, _⟩ := g2 _ _ h2
        exact .root (by rw [← g4]; exact h1) a
      | step _ h2 h3 h4 ih =>
        obtain ⟨x, a, b, _⟩ := g2 _ _ h2
        obtain ⟨o, c, _⟩ := g2 _ _ h4
        exact .step ih a (by rw [← b]; exact h3) c
    have hwp : ∀ y, WP s y → y = z ∨ WP s.step1 y := fun y hy => by
      induction hy with
      | grey h1 h2 =>
        obtain ⟨o, a, _, c⟩ := g1 _ _ h1
        rcases c with ⟨q, _⟩ | ⟨q, c⟩
        · exact .inl q
        · exact .inr (.grey a (by rcases c with c | c <;> omega))
      | @white y u x o _ h2 h3 h4 h5 ih =>
        obtain ⟨o1, a, _, c⟩ := g1 _ _ h4
        rcases c with ⟨q, _⟩ | ⟨q, c⟩
        · exact .inl q
        · rcases c with c | c
          · refine .inr ?_
            rcases ih with rfl | ih
            · exact absurd (show o1.col = 1 by omega) (g3 x h2 u h3 o1 a)
            · obtain ⟨x1, a1, b1, _⟩ := g1 _ _ h2
              exact .white ih a1 (by rw [b1]; exact h3) a (by omega)
          · exact .inr (.grey a c.2)
    intro y hy o ho hc
    obtain ⟨x, a, _, c⟩ := g2 y o ho
    rcases c with ⟨q, c⟩ | ⟨q, c⟩
    · omega
    · have := hwp y (hj y (hre y hy) x a (by rcases c with c | c <;> omega))
      rcases this with q2 | w
      · exact absurd q2 q
      · exact w
theorem KM.step1 {s : StM} (h : InvM s) (hk : KM s) : KM s.step1 := by
  cases e : s.row with
  | nil => unfold StM.step1; rw [e]; exact hk
  | cons z r =>
    obtain ⟨g1, g2, g3, _⟩ := step1_get h e
    intro y x hx hc f hf o ho
    obtain ⟨x0, a, b, c⟩ := g2 y x hx
    rcases c with ⟨q, _⟩ | ⟨q, c⟩
    · subst q
      exact g3 x0 a f (by rw [← b]; exact hf) o ho
    · obtain ⟨o0, a', _, c'⟩ := g2 f o ho
      have := hk y x0 a (by rcases c with c | c <;> omega) f (by rw [← b]; exact hf) o0 a'
      rcases c' with c' | ⟨_, c'⟩
      · omega
      · rcases c' with c' | c' <;> omega
theorem JM.steps : ∀ (n : Nat) {s : StM}, InvM s → JM s → JM (StM.steps n s)
  | 0, s, h, hj => hj
  | n + 1, s, h, hj => by
    unfold StM.steps
    cases s.row with
    | nil => exact hj
    | cons z r => exact JM.steps n h.step1 (hj.step1 h)
theorem KM.steps : ∀ (n : Nat) {s : StM}, InvM s → KM s → KM (StM.steps n s)
  | 0, s, h, hj => hj
  | n + 1, s, h, hj => by
    unfold StM.steps
    cases s.row with
    | nil => exact hj
    | cons z r => exact KM.steps n h.step1 (hj.step1 h)
/-- Steps keep what is reached. -/
theorem ReachM.step1 {s : StM} (h : InvM s) {z : Int} (hz : ReachM s z) : ReachM s.step1 z := by
  cases e : s.row with
  | nil => unfold StM.step1; rw [e]; exact hz
  | cons y r =>
    obtain ⟨g1, _, _, g4, _⟩ := step1_get h e
    induction hz with
    | root h1 h2 =>
      obtain ⟨o, a, _⟩ := g1 _ _ h2
      exact .root (by rw [g4]; exact h1) a
    | step _ h2 h3 h4 ih =>
      obtain ⟨x, a, b, _⟩ := g1 _ _ h2
      obtain ⟨o, c, _⟩ := g1 _ _ h4
      exact .step ih a (by rw [b]; exact h3) c
theorem ReachM.steps : ∀ (n : Nat) {s : StM}, InvM s → ∀ {z : Int}, ReachM s z → ReachM (StM.steps n s) z
  | 0, s, h, z, hz => hz
  | n + 1, s, h, z, hz => by
    unfold StM.steps
    cases s.row with
    | nil => exact hz
    | cons y r => exact ReachM.steps n h.step1 (hz.step1 h)
theorem pre_sh (s : StM) : ShM s (if s.mode = 2 then s.shades s.roots else s) := by
  split
  · exact ShM.shades s _
  · exact ShM.refl s
/-- Behind the end of a cycle nothing white is reached. -/
theorem drained_dark {s : StM} (h : InvM s) (hl : s.obs.length ≤ 400) (hc : s.cyc = true) (hm : s.mode = 1 ∨ s.mode = 2) (hj : s.mode = 1 → JM s) (hk : s.mode = 2 → KM s) {z : Int} (hz : ReachM s z) : ∀ o, getM s.drained.obs z = some o → o.col ≠ 1 := by
  have he := h.empty hl
  have hd := h.drained
  have hng : ∀ y o, getM s.drained.obs y = some o → o.col ≠ 2 := fun y o ho q => by
    have := (hd.gr y).2 ⟨o, ho, q⟩
    rw [he] at this
    simp at this
  have hR : ReachM s.drained z := ReachM.steps 400 h.pre (hz.hs (pre_sh s) (pre_frame s).2)
  intro o ho hcol
  rcases hm with hm | hm
  · have hJ : JM s.drained := JM.steps 400 h.pre (JM.sh (pre_sh s) (pre_frame s).2 (hj hm))
    have hw := hJ z hR o ho hcol
    have : ∀ y, WP s.drained y → False := fun y hy => by
      induction hy with
      | grey h1 h2 => exact hng _ _ h1 h2
      | white _ _ _ _ _ ih => exact ih
    exact this z hw
  · have hK : KM s.drained := KM.steps 400 h.pre (KM.sh (pre_sh s) (hk hm))
    have hcy : s.drained.cyc = true := by
      have h1 := (steps_frame 400 (if s.mode = 2 then s.shades s.roots else s)).2.2.1
      have h2 : (if s.mode = 2 then s.shades s.roots else s).cyc = s.cyc := by rw [if_pos hm]; exact (shades_frame _ _).2.2.1
      exact h1.trans (h2.trans hc)
    have hro : ∀ r ∈ s.roots, ∀ o, getM s.drained.obs r = some o → o.col ≠ 1 := by
      have key : ∀ (n : Nat) (t : StM), InvM t → (∀ r ∈ s.roots, ∀ o, getM t.obs r = some o → o.col ≠ 1) → ∀ r ∈ s.roots, ∀ o, getM (StM.steps n t).obs r = some o → o.col ≠ 1 := by
        intro n
        induction n with
        | zero => exact fun t _ ht => ht
        | succ n ih =>
          intro t hi ht
          unfold StM.steps
          cases e : t.row with
          | nil => exact ht
          | cons y r =>
            refine ih t.step1 hi.step1 fun r' hr' o ho => ?_
            obtain ⟨x, a, _, c⟩ := (step1_get hi e).2.1 r' o ho
            have := ht r' hr' x a
            rcases c with ⟨_, c⟩ | ⟨_, c⟩
            · omega
            · rcases c with c | c <;> omega
      refine key 400 _ h.pre fun r hr o ho => ?_
      rw [if_pos hm] at ho
      exact shades_done s s.roots r hr o ho
    have hall : ∀ y, ReachM s.drained y → ∀ o, getM s.drained.obs y = some o → o.col = 3 := fun y hy => by
      have hdr : s.drained.roots = s.roots := (steps_frame 400 _).2.1.trans (pre_frame s).2
      induction hy with
      | @root y o1 h1 h2 =>
        intro o ho
        have a := hro y (by rw [← hdr]; exact h1) o ho
        have b := hng y o ho
        rcases hd.inn hcy y o ho with q | q | q
        · exact absurd q a
        · exact absurd q b
        · exact q
      | @step y u x o1 _ h2 h3 h4 ih =>
        intro o ho
        have a := hK y x h2 (ih x h2) u h3 o ho
        have b := hng u o ho
        rcases hd.inn hcy u o ho with q | q | q
        · exact absurd q a
        · exact absurd q b
        · exact q
    have := hall z hR o ho
    omega
theorem mem_goneM {obs : List ObM} {z : Int} : z ∈ goneM obs ↔ ∃ o, getM obs z = some o ∧ o.col = 1 := by
  unfold goneM
  simp only [List.mem_map, List.mem_filter, List.mem_range]
  constructor
  · rintro ⟨i, ⟨hi, hp⟩, rfl⟩
    rw [List.getElem?_eq_getElem hi] at hp
    simp at hp
    refine ⟨obs[i], getM_some.2 ⟨by omega, ?_, hp.1⟩, hp.2⟩
    rw [show ((i : Int) + 1).toNat - 1 = i by omega]
    exact List.getElem?_eq_getElem hi
  · rintro ⟨o, ho, hc⟩
    obtain ⟨h1, h2, h3⟩ := getM_some.1 ho
    have hi := (List.getElem?_eq_some_iff.1 h2).1
    refine ⟨z.toNat - 1, ⟨hi, ?_⟩, by omega⟩
    rw [h2]
    simp [h3, hc]
/-- No cycle takes what is reached at its end. -/
theorem gone_safe {s : StM} (h : InvM s) (hl : s.obs.length ≤ 400) (hc : s.cyc = true) (hm : s.mode = 1 ∨ s.mode = 2) (hj : s.mode = 1 → JM s) (hk : s.mode = 2 → KM s) {z : Int} (hz : z ∈ goneM s.drained.obs) : ¬ ReachM s z := fun hr => by
  obtain ⟨o, ho, hcol⟩ := mem_goneM.1 hz
  exact drained_dark h hl hc hm hj hk hr o ho hcol
end Go.Proofs.Ytchcdlelaklnnaa

/- Marking meanwhile: what holds in every run. -/
namespace Go.Proofs.Ytchcdlelaklnnaa
set_option linter.unusedVariables false
structure GoodM (s : StM) : Prop where
  inv : InvM s
  len : s.obs.length ≤ 400
  fl : ∀ o ∈ s.obs, o.flds.length ≤ 6
  md : s.mode = 1 ∨ s.mode = 2
  j : s.cyc = true → s.mode = 1 → JM s
  k : s.cyc = true → s.mode = 2 → KM s
theorem WP.obs {s t : StM} (e : t.obs = s.obs) {z : Int} (h : WP s z) : WP t z := by
  induction h with
  | grey h1 h2 => exact .grey (by rw [e]; exact h1) h2
  | white _ h2 h3 h4 h5 ih => exact .white ih (by rw [e]; exact h2) h3 (by rw [e]; exact h4) h5
theorem KM.obs {s t : StM} (e : t.obs = s.obs) (h : KM s) : KM t := fun y x hx hc f hf o ho => h y x (by rw [← e]; exact hx) hc f hf o (by rw [← e]; exact ho)
theorem reach_setR {s : StM} {n z : Int} (hz : ∀ o, getM s.obs z = some o → ReachM s z) {y : Int} (h : ReachM (setR s n z) y) : ReachM s y := by
  induction h with
  | root h1 h2 =>
    rcases List.mem_or_eq_of_mem_set h1 with q | rfl
    · exact .root q h2
    · exact hz _ h2
  | step _ h2 h3 h4 ih => exact .step ih h2 h3 h4
theorem GoodM.setR {s : StM} (h : GoodM s) {n z : Int} (hz : ∀ o, getM s.obs z = some o → ReachM s z) (hr : 0 ≤ z ∧ z ≤ (s.obs.length : Int)) : GoodM (setR s n z) :=
  ⟨h.inv.setR n z hr, h.len, h.fl, h.md, fun hc hm y hy o ho hcol => WP.obs (s := s) (t := ({ s with roots := s.roots.set n.toNat z } : StM)) rfl (h.j hc hm y (reach_setR hz hy) o ho hcol), fun hc hm => KM.obs (s := s) (t := ({ s with roots := s.roots.set n.toNat z } : StM)) rfl (h.k hc hm)⟩
theorem rootM_mem {s : StM} (h : InvM s) {n : Int} (hn : isR n = true) : rootM s n ∈ s.roots := by
  obtain ⟨h1, h2⟩ := isR_iff.1 hn
  have hl : n.toNat < s.roots.length := by rw [h.rl]; omega
  unfold rootM
  rw [List.getD_eq_getElem?_getD, List.getElem?_eq_getElem hl]
  exact List.getElem_mem hl
theorem getM_zero (obs : List ObM) : getM obs 0 = none := by simp [getM]
theorem fieldM_mem {s : StM} {z c : Int} {o : ObM} (ho : getM s.obs z = some o) (hc : 0 ≤ c ∧ c < (o.flds.length : Int)) : fieldM s z c ∈ o.flds := by
  have hl : c.toNat < o.flds.length := by omega
  unfold fieldM
  rw [fldsM_some ho, List.getD_eq_getElem?_getD, List.getElem?_eq_getElem hl]
  exact List.getElem_mem hl
theorem GoodM.make {s : StM} (h : GoodM s) {n k : Int} (hl : (s.obs.length : Int) < 400) (hk : k ≤ 6) : GoodM (makeM s n k) := by
  have hget : ∀ z, getM (makeM s n k).obs z = if z = (s.obs.length : Int) + 1 then some ⟨List.replicate k.toNat 0, if s.cyc then 3 else 0, true⟩ else getM s.obs z := fun z => getM_app rfl z
  have hold : ∀ z o, getM s.obs z = some o → getM (makeM s n k).obs z = some o := fun z o ho => by
    rw [hget, if_neg (by have := (getM_le ho).2; omega)]
    exact ho
  have hof : ∀ z o, z ≠ (s.obs.length : Int) + 1 → getM (makeM s n k).obs z = some o → getM s.obs z = some o := fun z o hz ho => by
    rw [hget, if_neg hz] at ho
    exact ho
  have hre : ∀ y, ReachM (makeM s n k) y → y = (s.obs.length : Int) + 1 ∨ ReachM s y := fun y hy => by
    induction hy with
    | @root y o h1 h2 =>
      rcases List.mem_or_eq_of_mem_set h1 with q | rfl
      · by_cases e : y = (s.obs.length : Int) + 1
        · exact .inl e
        · exact .inr (.root q (hof y o e h2))
      · exact .inl rfl
    | @step y u x o _ h2 h3 h4 ih =>
      by_cases e : u = (s.obs.length : Int) + 1
      · exact .inl e
      · rcases ih with rfl | ih
        · rw [hget, if_pos rfl] at h2
          injection h2 with h2
          subst h2
          have := (List.mem_replicate.1 h3).2
          subst this
          rw [getM_zero] at h4
          cases h4
        · by_cases e2 : y = (s.obs.length : Int) + 1
          · obtain ⟨q, hq⟩ := ih.there
            have := (getM_le hq).2
            omega
          · exact .inr (.step ih (hof y x e2 h2) h3 (hof u o e h4))
  have hwp : ∀ y, WP s y → WP (makeM s n k) y := fun y hy => by
    induction hy with
    | grey h1 h2 => exact .grey (hold _ _ h1) h2
    | white _ h2 h3 h4 h5 ih => exact .white ih (hold _ _ h2) h3 (hold _ _ h4) h5
  refine ⟨h.inv.make n k, by simp [makeM]; omega, fun o ho => ?_, h.md, fun hc hm y hy o ho hcol => ?_, fun hc hm y x hx hcol f hf o ho => ?_⟩
  · rcases List.mem_append.1 ho with q | q
    · exact h.fl o q
    · have e : o = ⟨List.replicate k.toNat 0, if s.cyc then 3 else 0, true⟩ := by simpa using q
      subst e
      simp
      omega
  · have hc' : s.cyc = true := hc
    by_cases e : y = (s.obs.length : Int) + 1
    · rw [hget, if_pos e] at ho
      injection ho with ho
      subst ho
      simp [hc'] at hcol
    · rcases hre y hy with q | q
      · exact absurd q e
      · exact hwp y (h.j hc' hm y q o (hof y o e ho) hcol)
  · have hc' : s.cyc = true := hc
    by_cases e : y = (s.obs.length : Int) + 1
    · rw [hget, if_pos e] at hx
      injection hx with hx
      subst hx
      have := (List.mem_replicate.1 hf).2
      subst this
      rw [getM_zero] at ho
      cases ho
    · have hx := hof y x e hx
      have hfr := h.inv.fr x (getM_mem hx) f hf
      exact h.k hc' hm y x hx hcol f hf o (hof f o (by omega) ho)
theorem bar_sh (s : StM) (z c v : Int) : ShM s (barM s z c v) := by
  unfold barM
  split
  · exact ShM.shade s _
  · split
    · exact ShM.shade s _
    · exact ShM.refl s
theorem shade_dark (s : StM) (z : Int) : ∀ o, getM (s.shade z).obs z = some o → o.col ≠ 1 := fun o ho => shades_done s [z] z (by simp) o ho
theorem GoodM.put {s : StM} (h : GoodM s) {z c v : Int} {o0 : ObM} (hz : ReachM s z) (ho0 : getM s.obs z = some o0) (hc0 : 0 ≤ c ∧ c < (o0.flds.length : Int)) (hv : ∀ o, getM s.obs v = some o → ReachM s v) (hr : 0 ≤ v ∧ v ≤ (s.obs.length : Int)) : GoodM (putM s z c v) := by
  have hz1 := (getM_le ho0).1
  have hsh := bar_sh s z c v
  have hfr := bar_frame s z c v
  have hinv := h.inv.put (c := c) hz1 hr
  have hd1 : s.mode = 1 → ∀ o, getM (barM s z c v).obs (fieldM s z c) = some o → o.col ≠ 1 := fun hm o ho => by
    unfold barM at ho
    rw [if_pos hm] at ho
    exact shade_dark s _ o ho
  have hd2 : s.mode = 2 → ∀ x, getM (barM s z c v).obs z = some x → x.col = 3 → ∀ o, getM (barM s z c v).obs v = some o → o.col ≠ 1 := fun hm x hx hcol o ho => by
    unfold barM at hx ho
    rw [if_neg (by omega)] at hx ho
    by_cases q : colM s z = 3
    · rw [if_pos q] at ho
      exact shade_dark s _ o ho
    · rw [if_neg q] at hx
      exact absurd (by simp [colM, hx, hcol]) q
  have hjt : s.cyc = true → s.mode = 1 → JM (barM s z c v) := fun hc hm => (h.j hc hm).sh hsh hfr.2.1
  have hkt : s.cyc = true → s.mode = 2 → KM (barM s z c v) := fun hc hm => (h.k hc hm).sh hsh
  have hzt := hz.hs hsh hfr.2.1
  have hvt : ∀ o, getM (barM s z c v).obs v = some o → ReachM (barM s z c v) v := fun o ho => by
    obtain ⟨x, a, _⟩ := hsh.of v o ho
    exact (hv x a).hs hsh hfr.2.1
  obtain ⟨ot, hot, hotf, _⟩ := hsh.to z o0 ho0
  have hfe : fieldM s z c = ot.flds.getD c.toNat 0 := by unfold fieldM; rw [fldsM_some ho0, hotf]
  have hlen : ∀ o ∈ (barM s z c v).obs, o.flds.length ≤ 6 := by
    have : ∀ u, ∀ o ∈ (s.shade u).obs, o.flds.length ≤ 6 := fun u o ho => by
      rcases shade_cases s u with ⟨x, hg, hcx⟩ | hn
      · rw [shade_some hg hcx] at ho
        obtain ⟨o', ho', e⟩ := setCol_flds ho
        rw [e]
        exact h.fl o' ho'
      · rw [shade_none hn] at ho
        exact h.fl o ho
    unfold barM
    split
    · exact this _
    · split
      · exact this _
      · exact h.fl
  unfold putM at hinv ⊢
  generalize barM s z c v = t at hsh hfr hd1 hd2 hjt hkt hzt hvt hot hlen hinv
  have g : ∀ y, getM (setF t.obs z c v) y = if y = z then (getM t.obs y).map (fun o => { o with flds := o.flds.set c.toNat v }) else getM t.obs y := fun y => getM_setF hz1 y
  have gto : ∀ y x, getM t.obs y = some x → ∃ x', getM (setF t.obs z c v) y = some x' ∧ x'.col = x.col ∧ (y ≠ z → x'.flds = x.flds) ∧ (y = z → x'.flds = x.flds.set c.toNat v) := fun y x hx => by
    rw [g]
    by_cases e : y = z
    · rw [if_pos e, hx]
      exact ⟨_, rfl, rfl, fun q => absurd e q, fun _ => rfl⟩
    · rw [if_neg e]
      exact ⟨x, hx, rfl, fun _ => rfl, fun q => absurd q e⟩
  have gof : ∀ y x', getM (setF t.obs z c v) y = some x' → ∃ x, getM t.obs y = some x ∧ x'.col = x.col ∧ (y ≠ z → x'.flds = x.flds) ∧ (y = z → x'.flds = x.flds.set c.toNat v) := fun y x' hx => by
    rw [g] at hx
    by_cases e : y = z
    · rw [if_pos e] at hx
      cases ht : getM t.obs y with
      | none => rw [ht] at hx; cases hx
      | some x => rw [ht] at hx; simp at hx; subst hx; exact ⟨x, rfl, rfl, fun q => absurd e q, fun _ => rfl⟩
    · rw [if_neg e] at hx
      exact ⟨x', hx, rfl, fun _ => rfl, fun q => absurd q e⟩
  have hre : ∀ y, ReachM ({ t with obs := setF t.obs z c v } : StM) y → ReachM t y := fun y hy => by
    induction hy with
    | root h1 h2 =>
      obtain ⟨x, a, _⟩ := gof _ _ h2
      exact .root h1 a
    | @step y u x o _ h2 h3 h4 ih =>
      obtain ⟨x1, a1, _, b1, b2⟩ := gof _ _ h2
      obtain ⟨o1, a2, _⟩ := gof _ _ h4
      by_cases e : y = z
      · rw [b2 e] at h3
        rcases List.mem_or_eq_of_mem_set h3 with q | rfl
        · exact .step ih a1 q a2
        · exact hvt o1 a2
      · rw [b1 e] at h3
        exact .step ih a1 h3 a2
  refine ⟨hinv, by show (setF t.obs z c v).length ≤ 400; rw [setF_length, hfr.2.2.2]; exact h.len, fun o ho => ?_, by show t.mode = 1 ∨ t.mode = 2; rw [hfr.1]; exact h.md, fun hc hm y hy o ho hcol => ?_, fun hc hm y x hx hcol f hf o ho => ?_⟩
  · obtain ⟨i, hi, rfl⟩ := List.mem_iff_getElem.1 ho
    have hi' : i < t.obs.length := by have : i < (setF t.obs z c v).length := hi; rw [setF_length] at this; exact this
    have : ((setF t.obs z c v)[i]'hi).flds.length = (t.obs[i]).flds.length := by
      simp only [setF, List.getElem_modify]
      split <;> simp
    rw [this]
    exact hlen _ (List.getElem_mem _)
  · have hc' : s.cyc = true := by rw [← hfr.2.2.1]; exact hc
    have hm' : s.mode = 1 := by rw [← hfr.1]; exact hm
    have hwp : ∀ y, WP t y → WP ({ t with obs := setF t.obs z c v } : StM) y := fun y hy => by
      induction hy with
      | grey h1 h2 =>
        obtain ⟨x, a, b, _⟩ := gto _ _ h1
        exact .grey a (by omega)
      | @white y u x o _ h2 h3 h4 h5 ih =>
        obtain ⟨x1, a1, _, b1, b2⟩ := gto _ _ h2
        obtain ⟨o1, a2, c2, _⟩ := gto _ _ h4
        by_cases e : y = z
        · have hu : u ≠ fieldM s z c := fun q => by
            subst q
            exact hd1 hm' o h4 h5
          subst e
          have ex : x = ot := by rw [hot] at h2; injection h2 with h2; exact h2.symm
          subst ex
          refine .white ih a1 ?_ a2 (by omega)
          rw [b2 rfl]
          obtain ⟨i, hi, ei⟩ := List.mem_iff_getElem.1 h3
          refine List.mem_iff_getElem.2 ⟨i, by simpa using hi, ?_⟩
          rw [List.getElem_set_ne ?_]
          · exact ei
          · intro q
            apply hu
            rw [hfe, List.getD_eq_getElem?_getD, q, List.getElem?_eq_getElem hi]
            exact ei.symm
        · exact .white ih a1 (by rw [b1 e]; exact h3) a2 (by omega)
    obtain ⟨o1, a, b, _⟩ := gof y o ho
    exact hwp y (hjt hc' hm' y (hre y hy) o1 a (by omega))
  · have hc' : s.cyc = true := by rw [← hfr.2.2.1]; exact hc
    have hm' : s.mode = 2 := by rw [← hfr.1]; exact hm
    obtain ⟨x1, a1, c1, b1, b2⟩ := gof y x hx
    obtain ⟨o1, a2, c2, _⟩ := gof f o ho
    rw [c2]
    by_cases e : y = z
    · rw [b2 e] at hf
      rcases List.mem_or_eq_of_mem_set hf with q | rfl
      · exact hkt hc' hm' y x1 a1 (by omega) f q o1 a2
      · subst e
        exact hd2 hm' x1 a1 (by omega) o1 a2
    · rw [b1 e] at hf
      exact hkt hc' hm' y x1 a1 (by omega) f hf o1 a2
theorem shades_len6 {s : StM} (h : ∀ o ∈ s.obs, o.flds.length ≤ 6) : ∀ zs : List Int, ∀ o ∈ (s.shades zs).obs, o.flds.length ≤ 6
  | [] => h
  | z :: zs => by
    rw [shades_cons]
    refine shades_len6 (fun o ho => ?_) zs
    rcases shade_cases s z with ⟨x, hg, hcx⟩ | hn
    · rw [shade_some hg hcx] at ho
      obtain ⟨o', ho', e⟩ := setCol_flds ho
      rw [e]
      exact h o' ho'
    · rw [shade_none hn] at ho
      exact h o ho
theorem steps_len6 : ∀ (n : Nat) {s : StM}, (∀ o ∈ s.obs, o.flds.length ≤ 6) → ∀ o ∈ (StM.steps n s).obs, o.flds.length ≤ 6
  | 0, s, h => h
  | n + 1, s, h => by
    unfold StM.steps
    cases e : s.row with
    | nil => exact h
    | cons z r =>
      refine steps_len6 n fun o ho => ?_
      rw [step1_cons e] at ho
      obtain ⟨o', ho', q⟩ := setCol_flds ho
      rw [q]
      exact shades_len6 (s := ({ s with row := r } : StM)) h _ o' ho'
theorem GoodM.begin {s : StM} (h : GoodM s) (hc : s.cyc = false) : GoodM s.begin := by
  have hinv := h.inv.begin hc
  have hfr := shades_frame ({ s with obs := paintM s.obs 1, cyc := true } : StM) s.roots
  have hdn := shades_done ({ s with obs := paintM s.obs 1, cyc := true } : StM) s.roots
  have hsh := ShM.shades ({ s with obs := paintM s.obs 1, cyc := true } : StM) s.roots
  have h6 : ∀ o ∈ s.begin.obs, o.flds.length ≤ 6 := shades_len6 (fun o ho => by
    obtain ⟨o', ho', e⟩ := paintM_flds ho
    rw [e]
    exact h.fl o' ho') _
  have hnb : ∀ y o, getM s.begin.obs y = some o → o.col = 1 ∨ o.col = 2 := fun y o ho => by
    obtain ⟨x, a, _, c⟩ := hsh.of y o ho
    have a : getM (paintM s.obs 1) y = some x := a
    rw [getM_paint] at a
    cases hg : getM s.obs y with
    | none => rw [hg] at a; cases a
    | some q => rw [hg] at a; simp at a; subst a; simp at c; omega
  refine ⟨hinv, by show s.begin.obs.length ≤ 400; rw [show s.begin.obs.length = (paintM s.obs 1).length from hfr.2.2.2, paintM_length]; exact h.len, h6, by rw [show s.begin.mode = s.mode from hfr.1]; exact h.md, fun _ _ y hy o ho hcol => ?_, fun _ _ y x hx hcol => ?_⟩
  · have key : ∀ y, ReachM s.begin y → WP s.begin y := fun y hy => by
      induction hy with
      | @root y o h1 h2 =>
        have hr : y ∈ s.roots := by rw [show s.begin.roots = s.roots from hfr.2.1] at h1; exact h1
        have := hdn y hr o h2
        rcases hnb y o h2 with q | q
        · exact absurd q this
        · exact .grey h2 q
      | @step y u x o _ h2 h3 h4 ih =>
        rcases hnb u o h4 with q | q
        · exact .white ih h2 h3 h4 q
        · exact .grey h4 q
    exact key y hy
  · have := hnb y x hx
    omega
theorem GoodM.steps {s : StM} (h : GoodM s) (n : Nat) : GoodM (StM.steps n s) := by
  have hf := steps_frame n s
  refine ⟨h.inv.steps n, by rw [hf.2.2.2]; exact h.len, steps_len6 n h.fl, by rw [hf.1]; exact h.md, fun hc hm => JM.steps n h.inv (h.j (by rw [← hf.2.2.1]; exact hc) (by rw [← hf.1]; exact hm)), fun hc hm => KM.steps n h.inv (h.k (by rw [← hf.2.2.1]; exact hc) (by rw [← hf.1]; exact hm))⟩
theorem GoodM.fin {s : StM} (h : GoodM s) : GoodM s.fin := by
  have hl : s.drained.obs.length = s.obs.length := (steps_frame 400 _).2.2.2.trans (pre_frame s).1
  have hmo : s.drained.mode = s.mode := (steps_frame 400 _).1.trans (by split; exact (shades_frame _ _).1; rfl)
  refine ⟨h.inv.fin h.len, by show (sweepM s.drained.obs).length ≤ 400; rw [sweepM_length, hl]; exact h.len, fun o ho => ?_, by show s.drained.mode = 1 ∨ s.drained.mode = 2; rw [hmo]; exact h.md, (fun q => by cases q), (fun q => by cases q)⟩
  obtain ⟨o', ho', e⟩ := sweepM_flds ho
  rw [e]
  refine steps_len6 400 (fun x hx => ?_) o' ho'
  split at hx
  · exact shades_len6 h.fl _ x hx
  · exact h.fl x hx
theorem GoodM.new {mode : Int} (h : mode = 1 ∨ mode = 2) : GoodM (newM mode) := ⟨InvM.new mode, by simp [newM], fun o ho => by simp [newM] at ho, h, fun q => by simp [newM] at q, fun q => by simp [newM] at q⟩
theorem codeM_ok {s : StM} {op : OpM} (h : codeM s op = 0) : okM s op = true := by
  unfold codeM at h
  cases e : okM s op with
  | true => rfl
  | false => rw [if_pos e] at h; omega
theorem fcodeM_ok {s : StM} {z c : Int} (h : fcodeM s z c = 0) : ∃ o, getM s.obs z = some o ∧ 0 ≤ c ∧ c < (o.flds.length : Int) := by
  unfold fcodeM at h
  cases e : getM s.obs z with
  | none => rw [e] at h; simp at h
  | some o =>
    rw [e] at h
    simp only at h
    split at h
    · rename_i q; exact ⟨o, rfl, q.1, q.2⟩
    · omega
/-- Every op keeps it. -/
theorem GoodM.do {s : StM} (h : GoodM s) (op : OpM) : GoodM (doM s op) := by
  unfold doM
  split
  case isFalse => exact h
  case isTrue hc =>
    have hok := codeM_ok hc
    have hroot : ∀ n, isR n = true → ∀ o, getM s.obs (rootM s n) = some o → ReachM s (rootM s n) := fun n hn o ho => .root (rootM_mem h.inv hn) ho
    unfold actM
    by_cases k1 : op.kind = 1
    · rw [if_pos k1]
      unfold okM at hok
      rw [if_pos k1] at hok
      simp at hok
      exact h.make hok.2 hok.1.2.2
    rw [if_neg k1]
    unfold okM at hok
    rw [if_neg k1] at hok
    have hcd := hc
    unfold codeM at hcd
    rw [if_neg (by rw [codeM_ok hc]; simp)] at hcd
    by_cases k2 : op.kind = 2
    · rw [if_pos k2]
      rw [if_pos (.inl k2)] at hok
      rw [if_pos k2] at hcd
      obtain ⟨o, ho, hcc⟩ := fcodeM_ok hcd
      have hb : isR op.b = true := by simp at hok; exact hok.2
      exact h.setR (fun o' ho' => .step (hroot op.b hb o ho) ho (fieldM_mem ho hcc) ho') (fieldM_rng h.inv _ _)
    rw [if_neg k2]
    rw [if_neg k2] at hcd
    by_cases k3 : op.kind = 3
    · rw [if_pos k3]
      rw [if_pos (.inr (.inl k3))] at hok
      rw [if_pos k3] at hcd
      obtain ⟨o, ho, hcc⟩ := fcodeM_ok hcd
      simp at hok
      exact h.put (hroot op.a hok.1 o ho) ho hcc (hroot op.b hok.2) (rootM_rng h.inv _)
    rw [if_neg k3]
    rw [if_neg k3] at hcd
    by_cases k4 : op.kind = 4
    · rw [if_pos k4]
      rw [if_pos (.inr (.inr k4))] at hok
      simp at hok
      exact h.setR (hroot op.b hok.2) (rootM_rng h.inv _)
    rw [if_neg k4]
    by_cases k5 : op.kind = 5
    · rw [if_pos k5]
      exact h.setR (fun o ho => by rw [getM_zero] at ho; cases ho) (by omega)
    rw [if_neg k5]
    by_cases k6 : op.kind = 6
    · rw [if_pos k6]
      refine h.begin ?_
      cases hcy : s.cyc with
      | false => rfl
      | true => rw [if_pos ⟨by omega, by rw [hcy]; simp [k6]⟩] at hcd; omega
    rw [if_neg k6]
    by_cases k7 : op.kind = 7
    · rw [if_pos k7]
      exact h.steps _
    · rw [if_neg k7]
      exact h.fin
theorem GoodM.run {s : StM} (h : GoodM s) : ∀ ops : List OpM, GoodM (runM s ops)
  | [] => h
  | op :: ops => GoodM.run (h.do op) ops
/-- What goes with an op is not reached ahead of it. -/
theorem gone_not {s : StM} (h : GoodM s) (op : OpM) {z : Int} (hz : z ∈ (ansM s op).gone) : ¬ ReachM s z := by
  unfold ansM at hz
  simp only at hz
  split at hz
  · rename_i q
    obtain ⟨hc, hk⟩ := q
    have hcy : s.cyc = true := by
      unfold codeM at hc
      have hok := codeM_ok (s := s) (op := op) (by unfold codeM; exact hc)
      rw [if_neg (by rw [hok]; simp), if_neg (by omega), if_neg (by omega)] at hc
      cases hcy : s.cyc with
      | true => rfl
      | false => rw [if_pos ⟨by omega, by rw [hcy]; simp [hk]⟩] at hc; omega
    exact gone_safe h.inv h.len hcy h.md (h.j hcy) (h.k hcy) hz
  · simp at hz
end Go.Proofs.Ytchcdlelaklnnaa

/- Rows of ops: copies, comparisons, sizes. -/
namespace Go.Proofs.Ytchcdlelaklnnaa
set_option linter.unusedVariables false
open Go.ChangeShapes Go.WideShapes Go.ChangeAt Go.RowKit

def MopR : Rd OpM := fun _ _ _ _ row x => row = [.int .i64 x.kind, .int .i64 x.a, .int .i64 x.b, .int .i64 x.c]
theorem MopR.stable : Stable MopR := fun _ _ _ _ _ _ _ _ _ h _ _ _ => h

theorem elemT27 : ∃ i z, Try.prog.info? 27 = some i ∧ i.zero = some z ∧ i.size = 4 ∧ i.bytes = 32 := by
  obtain ⟨i0, hi0⟩ : ∃ i, Try.prog.info? 27 = some i := Option.isSome_iff_exists.1 (by kernel_rfl)
  obtain ⟨z, hz⟩ : ∃ z, (Try.prog.info? 27).bind (·.zero) = some z := Option.isSome_iff_exists.1 (by kernel_rfl)
  refine ⟨i0, z, hi0, ?_, ?_, ?_⟩
  · rw [hi0] at hz; exact hz
  · have : (Try.prog.info? 27).map (·.size) = some 4 := by kernel_rfl
    rw [hi0] at this; exact Option.some.inj this
  · have : (Try.prog.info? 27).map (·.bytes) = some 32 := by kernel_rfl
    rw [hi0] at this; exact Option.some.inj this

end Go.Proofs.Ytchcdlelaklnnaa
