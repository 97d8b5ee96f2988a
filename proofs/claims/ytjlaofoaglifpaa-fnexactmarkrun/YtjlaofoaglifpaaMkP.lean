/- Marking meanwhile: the plain state of both sides, its steps, and what always holds. -/
namespace Go.Proofs.Ytjlaofoaglifpaa
set_option linter.unusedVariables false
theorem nodup_lenN {α : Type} [DecidableEq α] : ∀ {l m : List α}, l.Nodup → (∀ z ∈ l, z ∈ m) → l.length ≤ m.length
  | [], m, _, _ => by simp
  | z :: l, m, h, hs => by
    have hz := List.nodup_cons.1 h
    have hm : z ∈ m := hs z (by simp)
    have h1 := nodup_lenN (m := m.erase z) hz.2 fun y hy => by
      have hne : y ≠ z := fun q => hz.1 (q ▸ hy)
      exact (List.mem_erase_of_ne hne).2 (hs y (by simp [hy]))
    have h2 := List.length_erase_of_mem hm
    have h3 := List.length_pos_of_mem hm
    simp only [List.length_cons]
    omega
/-- An object that was made: its fields, its colour, and whether it is still there. -/
structure ObM where
  flds : List Int
  col : Int
  there : Bool
/-- The state: the objects that were ever made, by their ids (the first has 1); eight roots; whether a cycle goes on; the ids that are grey, in their row. -/
structure StM where
  mode : Int
  obs : List ObM
  roots : List Int
  cyc : Bool
  row : List Int
/-- The object of an id. -/
def getM (obs : List ObM) (z : Int) : Option ObM :=
  if 1 ≤ z then match obs[z.toNat - 1]? with
    | some o => if o.there then some o else none
    | none => none
  else none
/-- The objects with another colour for one id. -/
def setCol (obs : List ObM) (z c : Int) : List ObM := obs.modify (z.toNat - 1) fun o => { o with col := c }
theorem setCol_length (obs : List ObM) (z c : Int) : (setCol obs z c).length = obs.length := by simp [setCol]
theorem getM_some {obs : List ObM} {z : Int} {o : ObM} : getM obs z = some o ↔ 1 ≤ z ∧ obs[z.toNat - 1]? = some o ∧ o.there = true := by
  unfold getM
  by_cases h : 1 ≤ z
  · rw [if_pos h]
    cases e : obs[z.toNat - 1]? with
    | none => simp
    | some x =>
      by_cases ht : x.there = true
      · simp only [ht, if_true, Option.some.injEq]
        constructor
        · rintro rfl; exact ⟨h, rfl, ht⟩
        · exact fun q => q.2.1
      · simp only [ht]
        constructor
        · intro q; cases q
        · rintro ⟨_, q, r⟩
          injection q with q
          subst q
          exact absurd r ht
  · rw [if_neg h]
    constructor
    · intro q; cases q
    · exact fun q => absurd q.1 h
theorem getM_set {obs : List ObM} {z c : Int} (hz : 1 ≤ z) (y : Int) : getM (setCol obs z c) y = if y = z then (getM obs y).map (fun o => { o with col := c }) else getM obs y := by
  by_cases hy : 1 ≤ y
  · unfold getM setCol
    rw [if_pos hy, if_pos hy, List.getElem?_modify]
    by_cases e : y = z
    · subst e
      simp only [if_true]
      cases obs[y.toNat - 1]? with
      | none => simp
      | some x => cases hx : x.there <;> simp [hx]
    · have h1 : ¬ (z.toNat - 1 = y.toNat - 1) := by omega
      rw [if_neg e]
      cases obs[y.toNat - 1]? <;> simp [h1]
  · unfold getM
    rw [if_neg hy, if_neg hy]
    by_cases e : y = z
    · omega
    · rw [if_neg e]
theorem getM_le {obs : List ObM} {z : Int} {o : ObM} (h : getM obs z = some o) : 1 ≤ z ∧ z ≤ obs.length := by
  obtain ⟨h1, h2, _⟩ := getM_some.1 h
  have := (List.getElem?_eq_some_iff.1 h2).1
  omega
theorem getM_mem {obs : List ObM} {z : Int} {o : ObM} (h : getM obs z = some o) : o ∈ obs := List.mem_of_getElem? (getM_some.1 h).2.1
/-- What is white is made grey, at the end of the row. -/
def StM.shade (s : StM) (z : Int) : StM :=
  match getM s.obs z with
  | some o => if o.col = 1 then { s with obs := setCol s.obs z 2, row := s.row ++ [z] } else s
  | none => s
def StM.shades (s : StM) (zs : List Int) : StM := zs.foldl StM.shade s
theorem shades_nil (s : StM) : s.shades [] = s := rfl
theorem shades_cons (s : StM) (z : Int) (zs : List Int) : s.shades (z :: zs) = (s.shade z).shades zs := rfl
theorem shades_append (s : StM) (zs ys : List Int) : s.shades (zs ++ ys) = (s.shades zs).shades ys := List.foldl_append
/-- The first of the row: what it leads to is shaded, and it is black. -/
def fldsM (obs : List ObM) (z : Int) : List Int := ((getM obs z).map ObM.flds).getD []
def StM.step1 (s : StM) : StM :=
  match s.row with
  | [] => s
  | z :: r => let t := ({ s with row := r } : StM).shades (fldsM s.obs z); { t with obs := setCol t.obs z 3 }
def StM.steps : Nat → StM → StM
  | 0, s => s
  | n + 1, s => match s.row with
    | [] => s
    | _ :: _ => StM.steps n s.step1
/-- What always holds. -/
structure InvM (s : StM) : Prop where
  rl : s.roots.length = 8
  rr : ∀ r ∈ s.roots, 0 ≤ r ∧ r ≤ (s.obs.length : Int)
  fr : ∀ o ∈ s.obs, ∀ f ∈ o.flds, 0 ≤ f ∧ f ≤ (s.obs.length : Int)
  nd : s.row.Nodup
  gr : ∀ z, z ∈ s.row ↔ ∃ o, getM s.obs z = some o ∧ o.col = 2
  out : s.cyc = false → ∀ z o, getM s.obs z = some o → o.col = 0
  inn : s.cyc = true → ∀ z o, getM s.obs z = some o → o.col = 1 ∨ o.col = 2 ∨ o.col = 3
theorem InvM.rest {s : StM} (h : InvM s) (hc : s.cyc = false) : s.row = [] := by
  refine List.eq_nil_iff_forall_not_mem.2 fun z hz => ?_
  obtain ⟨o, h1, h2⟩ := (h.gr z).1 hz
  have := h.out hc z o h1
  omega
theorem setCol_flds {obs : List ObM} {z c : Int} {o : ObM} (h : o ∈ setCol obs z c) : ∃ o' ∈ obs, o.flds = o'.flds := by
  obtain ⟨i, hi, rfl⟩ := List.mem_iff_getElem.1 h
  have hi' : i < obs.length := by rw [setCol_length] at hi; exact hi
  refine ⟨obs[i], List.getElem_mem _, ?_⟩
  simp only [setCol, List.getElem_modify]
  split <;> rfl
theorem shade_some {s : StM} {z : Int} {o : ObM} (h : getM s.obs z = some o) (hc : o.col = 1) : s.shade z = { s with obs := setCol s.obs z 2, row := s.row ++ [z] } := by
  unfold StM.shade
  rw [h]
  simp [hc]
theorem shade_none {s : StM} {z : Int} (h : ∀ o, getM s.obs z = some o → o.col ≠ 1) : s.shade z = s := by
  unfold StM.shade
  cases e : getM s.obs z with
  | none => rfl
  | some o => simp [h o e]
theorem shade_cases (s : StM) (z : Int) : (∃ o, getM s.obs z = some o ∧ o.col = 1) ∨ (∀ o, getM s.obs z = some o → o.col ≠ 1) := by
  cases e : getM s.obs z with
  | none => exact .inr fun o h => by cases h
  | some o =>
    by_cases hc : o.col = 1
    · exact .inl ⟨o, rfl, hc⟩
    · exact .inr fun o' h => by injection h with h; subst h; exact hc
theorem shade_frame (s : StM) (z : Int) : (s.shade z).mode = s.mode ∧ (s.shade z).roots = s.roots ∧ (s.shade z).cyc = s.cyc ∧ (s.shade z).obs.length = s.obs.length := by
  rcases shade_cases s z with ⟨o, h, hc⟩ | h
  · rw [shade_some h hc]; exact ⟨rfl, rfl, rfl, setCol_length _ _ _⟩
  · rw [shade_none h]; exact ⟨rfl, rfl, rfl, rfl⟩
theorem InvM.shade {s : StM} (h : InvM s) (z : Int) : InvM (s.shade z) := by
  rcases shade_cases s z with ⟨o, hg, hc⟩ | hn
  · rw [shade_some hg hc]
    have hz := (getM_le hg).1
    have hnot : z ∉ s.row := fun q => by
      obtain ⟨o', h1, h2⟩ := (h.gr z).1 q
      rw [hg] at h1
      injection h1 with h1
      subst h1
      omega
    refine ⟨h.rl, fun r hr => by rw [setCol_length]; exact h.rr r hr, fun x hx f hf => ?_, ?_, fun y => ?_, fun q => ?_, fun q y x hx => ?_⟩
    · rw [setCol_length]
      obtain ⟨x', hx', e⟩ := setCol_flds hx
      rw [e] at hf
      exact h.fr x' hx' f hf
    · exact List.nodup_append.2 ⟨h.nd, by simp, fun a ha b hb => by
        have : b = z := by simpa using hb
        subst this
        exact fun q => hnot (q ▸ ha)⟩
    · show y ∈ s.row ++ [z] ↔ ∃ o, getM (setCol s.obs z 2) y = some o ∧ o.col = 2
      rw [getM_set hz]
      by_cases e : y = z
      · subst e
        rw [hg]
        simp
      · rw [if_neg e, List.mem_append, h.gr y]
        simp [e]
    · have := h.out q z o hg
      omega
    · have hx : getM (setCol s.obs z 2) y = some x := hx
      rw [getM_set hz] at hx
      by_cases e : y = z
      · subst e
        rw [hg] at hx
        simp at hx
        subst hx
        exact .inr (.inl rfl)
      · rw [if_neg e] at hx
        exact h.inn q y x hx
  · rw [shade_none hn]; exact h
theorem InvM.shades {s : StM} (h : InvM s) : ∀ zs : List Int, InvM (s.shades zs)
  | [] => h
  | z :: zs => by rw [shades_cons]; exact (h.shade z).shades zs
theorem shades_frame (s : StM) : ∀ zs : List Int, (s.shades zs).mode = s.mode ∧ (s.shades zs).roots = s.roots ∧ (s.shades zs).cyc = s.cyc ∧ (s.shades zs).obs.length = s.obs.length
  | [] => ⟨rfl, rfl, rfl, rfl⟩
  | z :: zs => by
    rw [shades_cons]
    have h1 := shade_frame s z
    have h2 := shades_frame (s.shade z) zs
    exact ⟨h2.1.trans h1.1, h2.2.1.trans h1.2.1, h2.2.2.1.trans h1.2.2.1, h2.2.2.2.trans h1.2.2.2⟩
/-- Shading changes colours alone, white to grey. -/
structure ShM (s t : StM) : Prop where
  to : ∀ z o, getM s.obs z = some o → ∃ o', getM t.obs z = some o' ∧ o'.flds = o.flds ∧ (o'.col = o.col ∨ o.col = 1 ∧ o'.col = 2)
  of : ∀ z o', getM t.obs z = some o' → ∃ o, getM s.obs z = some o ∧ o'.flds = o.flds ∧ (o'.col = o.col ∨ o.col = 1 ∧ o'.col = 2)
theorem ShM.refl (s : StM) : ShM s s := ⟨fun z o h => ⟨o, h, rfl, .inl rfl⟩, fun z o h => ⟨o, h, rfl, .inl rfl⟩⟩
theorem ShM.trans {s t u : StM} (h1 : ShM s t) (h2 : ShM t u) : ShM s u := by
  refine ⟨fun z o h => ?_, fun z o h => ?_⟩
  · obtain ⟨o1, a1, a2, a3⟩ := h1.to z o h
    obtain ⟨o2, b1, b2, b3⟩ := h2.to z o1 a1
    refine ⟨o2, b1, b2.trans a2, ?_⟩
    rcases a3 with a3 | a3 <;> rcases b3 with b3 | b3
    · exact .inl (b3.trans a3)
    · exact .inr ⟨by omega, b3.2⟩
    · exact .inr ⟨a3.1, by omega⟩
    · omega
  · obtain ⟨o1, a1, a2, a3⟩ := h2.of z o h
    obtain ⟨o2, b1, b2, b3⟩ := h1.of z o1 a1
    refine ⟨o2, b1, a2.trans b2, ?_⟩
    rcases a3 with a3 | a3 <;> rcases b3 with b3 | b3
    · exact .inl (a3.trans b3)
    · exact .inr ⟨b3.1, by omega⟩
    · exact .inr ⟨by omega, a3.2⟩
    · omega
theorem ShM.shade (s : StM) (z : Int) : ShM s (s.shade z) := by
  rcases shade_cases s z with ⟨o, hg, hc⟩ | hn
  · rw [shade_some hg hc]
    have hz := (getM_le hg).1
    refine ⟨fun y x hx => ?_, fun y x hx => ?_⟩
    · show ∃ o', getM (setCol s.obs z 2) y = some o' ∧ _
      rw [getM_set hz]
      by_cases e : y = z
      · subst e
        rw [hg] at hx
        injection hx with hx
        subst hx
        rw [hg]
        exact ⟨{ o with col := 2 }, by simp, rfl, .inr ⟨hc, rfl⟩⟩
      · rw [if_neg e]
        exact ⟨x, hx, rfl, .inl rfl⟩
    · have hx : getM (setCol s.obs z 2) y = some x := hx
      rw [getM_set hz] at hx
      by_cases e : y = z
      · subst e
        rw [hg] at hx
        simp at hx
        subst hx
        exact ⟨o, hg, rfl, .inr ⟨hc, rfl⟩⟩
      · rw [if_neg e] at hx
        exact ⟨x, hx, rfl, .inl rfl⟩
  · rw [shade_none hn]; exact ShM.refl s
theorem ShM.shades (s : StM) : ∀ zs : List Int, ShM s (s.shades zs)
  | [] => ShM.refl s
  | z :: zs => by rw [shades_cons]; exact (ShM.shade s z).trans (ShM.shades _ zs)
/-- Behind shading, none of them is white. -/
theorem shades_done (s : StM) : ∀ (zs : List Int) (z : Int), z ∈ zs → ∀ o, getM (s.shades zs).obs z = some o → o.col ≠ 1
  | [], z, hz, _, _ => by simp at hz
  | y :: ys, z, hz, o, ho => by
    rw [shades_cons] at ho
    rcases List.mem_cons.1 hz with rfl | hz
    · obtain ⟨o1, a1, _, a3⟩ := (ShM.shades (s.shade z) ys).of z o ho
      have h1 : o1.col ≠ 1 := by
        rcases shade_cases s z with ⟨x, hg, hc⟩ | hn
        · rw [shade_some hg hc] at a1
          have a1 : getM (setCol s.obs z 2) z = some o1 := a1
          rw [getM_set (getM_le hg).1, if_pos rfl, hg] at a1
          simp at a1
          subst a1
          simp
        · rw [shade_none hn] at a1
          exact hn o1 a1
      rcases a3 with a3 | a3 <;> omega
    · exact shades_done (s.shade y) ys z hz o ho
/-- How many are white. -/
def whites (obs : List ObM) : Nat := (obs.filter fun o => o.there && decide (o.col = 1)).length
theorem whites_set : ∀ {obs : List ObM} {i : Nat} {o : ObM} {c : Int}, obs[i]? = some o → o.there = true → o.col = 1 → c ≠ 1 → whites (obs.modify i fun o => { o with col := c }) + 1 = whites obs
  | x :: obs, 0, o, c, h, ht, hc, hn => by
    simp at h
    subst h
    simp [whites, ht, hc, hn]
  | x :: obs, i + 1, o, c, h, ht, hc, hn => by
    have := whites_set (obs := obs) (i := i) (o := o) (c := c) (by simpa using h) ht hc hn
    unfold whites at this ⊢
    simp only [List.modify_succ_cons, List.filter_cons]
    split
    · simp only [List.length_cons]; omega
    · exact this
  | [], i, o, c, h, _, _, _ => by simp at h
theorem shade_weight (s : StM) (z : Int) : whites (s.shade z).obs + (s.shade z).row.length = whites s.obs + s.row.length := by
  rcases shade_cases s z with ⟨o, hg, hc⟩ | hn
  · rw [shade_some hg hc]
    have := whites_set (c := 2) (getM_some.1 hg).2.1 (getM_some.1 hg).2.2 hc (by omega)
    show whites (setCol s.obs z 2) + (s.row ++ [z]).length = _
    unfold setCol
    rw [List.length_append, List.length_singleton]
    omega
  · rw [shade_none hn]
theorem shades_weight (s : StM) : ∀ zs : List Int, whites (s.shades zs).obs + (s.shades zs).row.length = whites s.obs + s.row.length
  | [] => rfl
  | z :: zs => by rw [shades_cons, shades_weight, shade_weight]
theorem step1_cons {s : StM} {z : Int} {r : List Int} (h : s.row = z :: r) : s.step1 = { (({ s with row := r } : StM).shades (fldsM s.obs z)) with obs := setCol (({ s with row := r } : StM).shades (fldsM s.obs z)).obs z 3 } := by
  unfold StM.step1
  rw [h]
theorem whites_keep : ∀ {obs : List ObM} {i : Nat} {o : ObM} {c : Int}, obs[i]? = some o → o.col ≠ 1 → c ≠ 1 → whites (obs.modify i fun o => { o with col := c }) = whites obs
  | x :: obs, 0, o, c, h, hc, hn => by
    simp at h
    subst h
    simp [whites, hc, hn]
  | x :: obs, i + 1, o, c, h, hc, hn => by
    have := whites_keep (obs := obs) (i := i) (o := o) (c := c) (by simpa using h) hc hn
    unfold whites at this ⊢
    simp only [List.modify_succ_cons, List.filter_cons]
    split
    · simp only [List.length_cons]; omega
    · exact this
  | [], i, o, c, h, _, _ => by simp at h
/-- What holds while the first of the row, z, is looked at: it is grey, and not in the row. -/
structure InvZ (s : StM) (z : Int) : Prop where
  rl : s.roots.length = 8
  rr : ∀ r ∈ s.roots, 0 ≤ r ∧ r ≤ (s.obs.length : Int)
  fr : ∀ o ∈ s.obs, ∀ f ∈ o.flds, 0 ≤ f ∧ f ≤ (s.obs.length : Int)
  nd : s.row.Nodup
  zn : z ∉ s.row
  me : ∃ o, getM s.obs z = some o ∧ o.col = 2
  gr : ∀ y, y ∈ s.row ∨ y = z ↔ ∃ o, getM s.obs y = some o ∧ o.col = 2
  inn : ∀ y o, getM s.obs y = some o → o.col = 1 ∨ o.col = 2 ∨ o.col = 3
theorem InvM.cyc {s : StM} (h : InvM s) {z : Int} (hz : z ∈ s.row) : s.cyc = true := by
  cases hc : s.cyc with
  | true => rfl
  | false => rw [h.rest hc] at hz; simp at hz
theorem InvM.pop {s : StM} (h : InvM s) {z : Int} {r : List Int} (e : s.row = z :: r) : InvZ { s with row := r } z := by
  have hc := h.cyc (z := z) (by rw [e]; simp)
  have hnd := h.nd
  rw [e] at hnd
  have hn := List.nodup_cons.1 hnd
  refine ⟨h.rl, h.rr, h.fr, hn.2, hn.1, (h.gr z).1 (by rw [e]; simp), fun y => ?_, h.inn hc⟩
  have := h.gr y
  rw [e, List.mem_cons] at this
  rw [← this]
  exact Or.comm
theorem InvZ.shade {s : StM} {z : Int} (h : InvZ s z) (y : Int) : InvZ (s.shade y) z := by
  rcases shade_cases s y with ⟨o, hg, hc⟩ | hn
  · rw [shade_some hg hc]
    have hy := (getM_le hg).1
    have hyz : y ≠ z := fun q => by
      obtain ⟨o', h1, h2⟩ := h.me
      rw [← q, hg] at h1
      injection h1 with h1
      subst h1
      omega
    have hnot : y ∉ s.row := fun q => by
      obtain ⟨o', h1, h2⟩ := (h.gr y).1 (.inl q)
      rw [hg] at h1
      injection h1 with h1
      subst h1
      omega
    refine ⟨h.rl, fun r hr => by rw [setCol_length]; exact h.rr r hr, fun x hx f hf => ?_, ?_, ?_, ?_, fun u => ?_, fun u x hx => ?_⟩
    · rw [setCol_length]
      obtain ⟨x', hx', e⟩ := setCol_flds hx
      rw [e] at hf
      exact h.fr x' hx' f hf
    · exact List.nodup_append.2 ⟨h.nd, by simp, fun a ha b hb => by
        have : b = y := by simpa using hb
        subst this
        exact fun q => hnot (q ▸ ha)⟩
    · intro q
      rcases List.mem_append.1 q with q | q
      · exact h.zn q
      · exact hyz (by simpa using q : z = y).symm
    · show ∃ o, getM (setCol s.obs y 2) z = some o ∧ o.col = 2
      rw [getM_set hy, if_neg (fun q => hyz q.symm)]
      exact h.me
    · show u ∈ s.row ++ [y] ∨ u = z ↔ ∃ o, getM (setCol s.obs y 2) u = some o ∧ o.col = 2
      rw [getM_set hy]
      by_cases e : u = y
      · subst e
        rw [hg]
        simp
      · rw [if_neg e, ← h.gr u]
        simp [e]
    · have hx : getM (setCol s.obs y 2) u = some x := hx
      rw [getM_set hy] at hx
      by_cases e : u = y
      · subst e
        rw [hg] at hx
        simp at hx
        subst hx
        exact .inr (.inl rfl)
      · rw [if_neg e] at hx
        exact h.inn u x hx
  · rw [shade_none hn]; exact h
theorem InvZ.shades {s : StM} {z : Int} (h : InvZ s z) : ∀ zs : List Int, InvZ (s.shades zs) z
  | [] => h
  | y :: ys => by rw [shades_cons]; exact (h.shade y).shades ys
theorem InvZ.black {s : StM} {z : Int} (h : InvZ s z) (hc : s.cyc = true) : InvM { s with obs := setCol s.obs z 3 } := by
  obtain ⟨o, hg, ho⟩ := h.me
  have hz := (getM_le hg).1
  refine ⟨h.rl, fun r hr => by rw [setCol_length]; exact h.rr r hr, fun x hx f hf => ?_, h.nd, fun u => ?_, fun q => ?_, fun q u x hx => ?_⟩
  · rw [setCol_length]
    obtain ⟨x', hx', e⟩ := setCol_flds hx
    rw [e] at hf
    exact h.fr x' hx' f hf
  · show u ∈ s.row ↔ ∃ o, getM (setCol s.obs z 3) u = some o ∧ o.col = 2
    rw [getM_set hz]
    by_cases e : u = z
    · subst e
      rw [hg]
      simp [h.zn]
    · rw [if_neg e, ← h.gr u]
      simp [e]
  · rw [hc] at q; cases q
  · have hx : getM (setCol s.obs z 3) u = some x := hx
    rw [getM_set hz] at hx
    by_cases e : u = z
    · subst e
      rw [hg] at hx
      simp at hx
      subst hx
      exact .inr (.inr rfl)
    · rw [if_neg e] at hx
      exact h.inn u x hx
theorem InvM.step1 {s : StM} (h : InvM s) : InvM s.step1 := by
  cases e : s.row with
  | nil => unfold StM.step1; rw [e]; exact h
  | cons z r =>
    rw [step1_cons e]
    have hc := h.cyc (z := z) (by rw [e]; simp)
    exact ((h.pop e).shades _).black (by rw [(shades_frame _ _).2.2.1]; exact hc)
theorem step1_weight {s : StM} (h : InvM s) {z : Int} {r : List Int} (e : s.row = z :: r) : whites s.step1.obs + s.step1.row.length + 1 = whites s.obs + s.row.length := by
  rw [step1_cons e]
  have h1 := (h.pop e).shades (fldsM s.obs z)
  obtain ⟨o, hg, ho⟩ := h1.me
  have h2 := whites_keep (c := 3) (getM_some.1 hg).2.1 (by omega) (by omega)
  have h3 := shades_weight ({ s with row := r } : StM) (fldsM s.obs z)
  show whites (setCol (({ s with row := r } : StM).shades (fldsM s.obs z)).obs z 3) + (({ s with row := r } : StM).shades (fldsM s.obs z)).row.length + 1 = _
  unfold setCol
  rw [h2, e, List.length_cons]
  have h4 : whites ({ s with row := r } : StM).obs + ({ s with row := r } : StM).row.length = whites s.obs + r.length := rfl
  omega
theorem InvM.steps {s : StM} (h : InvM s) : ∀ n, InvM (StM.steps n s)
  | 0 => h
  | n + 1 => by
    unfold StM.steps
    cases s.row with
    | nil => exact h
    | cons z r => exact InvM.steps h.step1 n
/-- Steps enough leave nothing grey. -/
theorem steps_enough : ∀ (n : Nat) (s : StM), InvM s → whites s.obs + s.row.length ≤ n → (StM.steps n s).row = []
  | 0, s, h, hn => by
    have : s.row.length = 0 := by omega
    exact List.eq_nil_of_length_eq_zero this
  | n + 1, s, h, hn => by
    unfold StM.steps
    cases e : s.row with
    | nil => exact e
    | cons z r =>
      refine steps_enough n s.step1 h.step1 ?_
      have := step1_weight h e
      omega
theorem steps_more : ∀ (n m : Nat) (s : StM), (StM.steps n s).row = [] → n ≤ m → StM.steps m s = StM.steps n s
  | 0, m, s, h, hn => by
    have h : s.row = [] := h
    cases m with
    | zero => rfl
    | succ m => show StM.steps (m + 1) s = s; unfold StM.steps; rw [h]
  | n + 1, 0, s, h, hn => by omega
  | n + 1, m + 1, s, h, hn => by
    unfold StM.steps at h ⊢
    cases e : s.row with
    | nil => rfl
    | cons z r =>
      rw [e] at h
      exact steps_more n m s.step1 h (by omega)
theorem whites_le (obs : List ObM) : whites obs ≤ obs.length := List.length_filter_le _ _
theorem steps_frame : ∀ (n : Nat) (s : StM), (StM.steps n s).mode = s.mode ∧ (StM.steps n s).roots = s.roots ∧ (StM.steps n s).cyc = s.cyc ∧ (StM.steps n s).obs.length = s.obs.length
  | 0, s => ⟨rfl, rfl, rfl, rfl⟩
  | n + 1, s => by
    unfold StM.steps
    cases e : s.row with
    | nil => exact ⟨rfl, rfl, rfl, rfl⟩
    | cons z r =>
      have h := steps_frame n s.step1
      have hs := shades_frame ({ s with row := r } : StM) (fldsM s.obs z)
      have h1 : s.step1.mode = s.mode ∧ s.step1.roots = s.roots ∧ s.step1.cyc = s.cyc ∧ s.step1.obs.length = s.obs.length := by
        rw [step1_cons e]
        exact ⟨hs.1, hs.2.1, hs.2.2.1, by rw [← hs.2.2.2]; exact setCol_length _ _ _⟩
      exact ⟨h.1.trans h1.1, h.2.1.trans h1.2.1, h.2.2.1.trans h1.2.2.1, h.2.2.2.trans h1.2.2.2⟩
end Go.Proofs.Ytjlaofoaglifpaa
