/- What the program's search holds: the plain mathematics. -/
import Derived.Test.YtedpocgmfpaeeaaGlP
namespace Go.Proofs.Ytedpocgmfpaeeaa
set_option linter.unusedVariables false
/-- Which of the first k objects have the id z. -/
def ixK (objs : List GobL) (k : Nat) (z : Int) : List Nat := (List.range k).filter fun i => decide ((objs[i]?.map GobL.id) = some z)
theorem ixK_succ (objs : List GobL) (k : Nat) (z : Int) (h : k < objs.length) : ixK objs (k + 1) z = if objs[k].id = z then ixK objs k z ++ [k] else ixK objs k z := by
  unfold ixK
  rw [List.range_succ, List.filter_append]
  by_cases e : objs[k].id = z <;> simp [List.getElem?_eq_getElem h, e]
theorem mem_ixK {objs : List GobL} {k i : Nat} {z : Int} (hk : k ≤ objs.length) : i ∈ ixK objs k z ↔ i < k ∧ ∃ h : i < objs.length, objs[i].id = z := by
  unfold ixK
  simp only [List.mem_filter, List.mem_range, decide_eq_true_eq]
  constructor
  · rintro ⟨h1, h2⟩
    have h3 : i < objs.length := by omega
    rw [List.getElem?_eq_getElem h3] at h2
    exact ⟨h1, h3, by simpa using h2⟩
  · rintro ⟨h1, h3, h2⟩
    refine ⟨h1, ?_⟩
    rw [List.getElem?_eq_getElem h3]
    simp [h2]
theorem ixK_length (objs : List GobL) (k : Nat) (z : Int) : (ixK objs k z).length ≤ k := by
  have := List.length_filter_le (fun i => decide ((objs[i]?.map GobL.id) = some z)) (List.range k)
  simpa [ixK] using this
theorem ixK_nodup (objs : List GobL) (k : Nat) (z : Int) : (ixK objs k z).Nodup := List.Pairwise.filter _ List.nodup_range
theorem ixK_zero (objs : List GobL) (z : Int) : ixK objs 0 z = [] := by simp [ixK]
theorem ixK_lt {objs : List GobL} {k i : Nat} {z : Int} (hk : k ≤ objs.length) (h : i ∈ ixK objs k z) : i < objs.length := by
  obtain ⟨_, h2, _⟩ := (mem_ixK hk).1 h
  exact h2
/-- What the search is given for z, and what it keeps then. -/
def retL (objs : List GobL) (lv : List Int) (z : Int) : List Nat := if z ≠ 0 ∧ z ∉ lv then ixK objs objs.length z else []
def comeG (objs : List GobL) (lv : List Int) (z : Int) : List Int := if retL objs lv z = [] then lv else lv ++ [z]
theorem retL_has {objs : List GobL} {lv : List Int} {z : Int} (h : retL objs lv z ≠ []) : hasG objs z ∧ z ∉ lv := by
  unfold retL at h
  split at h
  · rename_i hc
    obtain ⟨i, hi⟩ := List.exists_mem_of_ne_nil _ h
    obtain ⟨_, h2, h3⟩ := (mem_ixK (Nat.le_refl _)).1 hi
    exact ⟨⟨hc.1, objs[i], List.getElem_mem _, h3⟩, hc.2⟩
  · exact absurd rfl h
theorem has_retL {objs : List GobL} {lv : List Int} {z : Int} (h : hasG objs z) (hn : z ∉ lv) : retL objs lv z ≠ [] := by
  obtain ⟨h0, o, ho, e⟩ := h
  obtain ⟨i, hi, rfl⟩ := List.mem_iff_getElem.1 ho
  unfold retL
  rw [if_pos ⟨h0, hn⟩]
  exact List.ne_nil_of_mem ((mem_ixK (Nat.le_refl _)).2 ⟨hi, hi, e⟩)
theorem nodup_len {α : Type} [DecidableEq α] : ∀ {l m : List α}, l.Nodup → (∀ z ∈ l, z ∈ m) → l.length ≤ m.length
  | [], m, _, _ => by simp
  | z :: l, m, h, hs => by
    have hz := List.nodup_cons.1 h
    have hm : z ∈ m := hs z (by simp)
    have h1 := nodup_len (m := m.erase z) hz.2 fun y hy => by
      have hne : y ≠ z := fun q => hz.1 (q ▸ hy)
      exact (List.mem_erase_of_ne hne).2 (hs y (by simp [hy]))
    have h2 := List.length_erase_of_mem hm
    have h3 := List.length_pos_of_mem hm
    simp only [List.length_cons]
    omega
/-- Where the program's search stands: lv is what it has found, row the objects it has been given. -/
structure PrG (objs : List GobL) (st lv : List Int) (row : List Nat) : Prop where
  nd : lv.Nodup
  live : ∀ z ∈ lv, LiveG objs st z
  rows : ∀ i, i ∈ row ↔ ∃ h : i < objs.length, objs[i].id ∈ lv
  rnd : row.Nodup
theorem PrG.start (objs : List GobL) (st : List Int) : PrG objs st [] [] := ⟨List.nodup_nil, by simp, by simp, List.nodup_nil⟩
theorem PrG.rlen {objs : List GobL} {st lv : List Int} {row : List Nat} (h : PrG objs st lv row) : row.length ≤ objs.length := by
  have := nodup_len (m := List.range objs.length) h.rnd fun i hi => by
    obtain ⟨h1, _⟩ := (h.rows i).1 hi
    simpa using h1
  simpa using this
theorem PrG.len {objs : List GobL} {st lv : List Int} {row : List Nat} (h : PrG objs st lv row) : lv.length ≤ objs.length := by
  have := nodup_len (m := objs.map GobL.id) h.nd fun z hz => by
    obtain ⟨_, o, ho, e⟩ := (h.live z hz).has
    rw [← e]
    exact List.mem_map_of_mem ho
  simpa using this
/-- All that ids tell has been found. -/
def ClG (objs : List GobL) (lv ids : List Int) : Prop := ∀ z ∈ ids, hasG objs z → z ∈ lv
theorem comeG_sub {objs : List GobL} {lv : List Int} {z y : Int} (h : y ∈ lv) : y ∈ comeG objs lv z := by
  unfold comeG
  split
  · exact h
  · simp [h]
theorem ClG.come {objs : List GobL} {lv ids : List Int} {z : Int} (h : ClG objs lv ids) : ClG objs (comeG objs lv z) ids := fun y hy hh => comeG_sub (h y hy hh)
theorem comeG_has {objs : List GobL} {lv : List Int} {z : Int} (h : hasG objs z) : z ∈ comeG objs lv z := by
  by_cases hz : z ∈ lv
  · exact comeG_sub hz
  · unfold comeG
    rw [if_neg (has_retL h hz)]
    simp
theorem ClG.more {objs : List GobL} {lv ids : List Int} {m : Nat} (hm : m < ids.length) (h : ClG objs lv (ids.take m)) : ClG objs (comeG objs lv ids[m]) (ids.take (m + 1)) := by
  intro y hy hh
  rw [List.take_add_one, List.getElem?_eq_getElem hm] at hy
  rcases List.mem_append.1 hy with hy | hy
  · exact comeG_sub (h y hy hh)
  · have e : y = ids[m] := by simpa using hy
    subst e
    exact comeG_has hh
theorem PrG.come {objs : List GobL} {st lv : List Int} {row : List Nat} {z : Int} (h : PrG objs st lv row) (hl : hasG objs z → LiveG objs st z) : PrG objs st (comeG objs lv z) (row ++ retL objs lv z) := by
  by_cases hr : retL objs lv z = []
  · unfold comeG
    rw [if_pos hr, hr, List.append_nil]
    exact h
  · obtain ⟨hh, hn⟩ := retL_has hr
    have ec : comeG objs lv z = lv ++ [z] := by unfold comeG; rw [if_neg hr]
    have er : retL objs lv z = ixK objs objs.length z := by unfold retL; rw [if_pos ⟨hh.1, hn⟩]
    rw [ec, er]
    refine ⟨?_, ?_, ?_, ?_⟩
    · exact List.nodup_append.2 ⟨h.nd, by simp, fun a ha b hb => by
        have : b = z := by simpa using hb
        subst this
        exact fun q => hn (q ▸ ha)⟩
    · intro y hy
      rcases List.mem_append.1 hy with hy | hy
      · exact h.live y hy
      · have : y = z := by simpa using hy
        subst this
        exact hl hh
    · intro i
      constructor
      · intro hi
        rcases List.mem_append.1 hi with hi | hi
        · obtain ⟨h1, h2⟩ := (h.rows i).1 hi
          exact ⟨h1, by simp [h2]⟩
        · obtain ⟨_, h1, h2⟩ := (mem_ixK (Nat.le_refl _)).1 hi
          exact ⟨h1, by simp [h2]⟩
      · rintro ⟨h1, h2⟩
        rcases List.mem_append.1 h2 with h2 | h2
        · exact List.mem_append_left _ ((h.rows i).2 ⟨h1, h2⟩)
        · exact List.mem_append_right _ ((mem_ixK (Nat.le_refl _)).2 ⟨h1, h1, by simpa using h2⟩)
    · exact List.nodup_append.2 ⟨h.rnd, ixK_nodup _ _ _, fun a ha b hb => by
        intro q
        subst q
        obtain ⟨_, h2⟩ := (h.rows a).1 ha
        obtain ⟨_, _, h3⟩ := (mem_ixK (Nat.le_refl _)).1 hb
        rw [h3] at h2
        exact hn h2⟩
/-- What the first a objects of the row lead to has been found. -/
def FoG (objs : List GobL) (lv : List Int) (row : List Nat) (a : Nat) : Prop := ∀ j, j < a → ∀ i, row[j]? = some i → ∀ h : i < objs.length, ClG objs lv (outG objs[i])
theorem FoG.zero (objs : List GobL) (lv : List Int) (row : List Nat) : FoG objs lv row 0 := fun j hj => by omega
theorem FoG.come {objs : List GobL} {lv : List Int} {row more : List Nat} {a : Nat} {z : Int} (ha : a ≤ row.length) (h : FoG objs lv row a) : FoG objs (comeG objs lv z) (row ++ more) a := by
  intro j hj i hi hh
  rw [List.getElem?_append_left (by omega)] at hi
  exact (h j hj i hi hh).come
theorem FoG.more {objs : List GobL} {lv : List Int} {row : List Nat} {a : Nat} (ha : a < row.length) (h : FoG objs lv row a) (hc : ∀ h : row[a] < objs.length, ClG objs lv (outG objs[row[a]])) : FoG objs lv row (a + 1) := by
  intro j hj i hi hh
  by_cases e : j = a
  · subst e
    rw [List.getElem?_eq_getElem ha] at hi
    have e2 : row[j] = i := by simpa using hi
    subst e2
    exact hc hh
  · exact h j (by omega) i hi hh
theorem PrG.step {objs : List GobL} {st lv : List Int} {row : List Nat} {a : Nat} {z : Int} (h : PrG objs st lv row) (ha : a < row.length) (hh : row[a] < objs.length) (hz : z ∈ outG objs[row[a]]) : hasG objs z → LiveG objs st z := by
  obtain ⟨_, h2⟩ := (h.rows row[a]).1 (List.getElem_mem _)
  exact fun q => .step (h.live _ h2) (List.getElem_mem _) hz q
theorem PrG.fin {objs : List GobL} {st lv : List Int} {row : List Nat} (h : PrG objs st lv row) (hs : ClG objs lv st) (hf : FoG objs lv row row.length) (z : Int) : z ∈ lv ↔ LiveG objs st z := by
  constructor
  · exact h.live z
  · intro hl
    induction hl with
    | root h1 h2 => exact hs _ h1 h2
    | @step id o hp ho hid hh ih =>
      obtain ⟨i, hi, rfl⟩ := List.mem_iff_getElem.1 ho
      have hm := (h.rows i).2 ⟨hi, ih⟩
      obtain ⟨j, hj, e⟩ := List.mem_iff_getElem.1 hm
      exact hf j hj i (by rw [List.getElem?_eq_getElem hj, e]) hi _ hid hh
theorem PrG.sorted {objs : List GobL} {st lv s : List Int} {row : List Nat} (h : PrG objs st lv row) (hs : ClG objs lv st) (hf : FoG objs lv row row.length) (hp : s.Perm lv) (ho : s.Pairwise (· ≤ ·)) : s = liveL objs st := by
  refine liveL_of ?_ fun z => (hp.mem_iff).trans (h.fin hs hf z)
  have hn : s.Nodup := hp.nodup_iff.2 h.nd
  exact (List.pairwise_and_iff.2 ⟨ho, hn⟩).imp fun ⟨h1, h2⟩ => by omega
end Go.Proofs.Ytedpocgmfpaeeaa
