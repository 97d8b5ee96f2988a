/- What lives in a heap: the plain mathematics. -/
import Derived.Test.YtedpocgmfpaeeaaGlA
namespace Go.Proofs.Ytedpocgmfpaeeaa
set_option linter.unusedVariables false
/-- The fields through which what they hold is reached. -/
def outG (o : GobL) : List Int := if 1 ≤ o.kind ∧ o.kind ≤ 3 then o.flds.drop 1 else o.flds
def hasG (objs : List GobL) (id : Int) : Prop := id ≠ 0 ∧ ∃ o ∈ objs, o.id = id
inductive LiveG (objs : List GobL) (st : List Int) : Int → Prop
  | root {id : Int} : id ∈ st → hasG objs id → LiveG objs st id
  | step {id : Int} {o : GobL} : LiveG objs st o.id → o ∈ objs → id ∈ outG o → hasG objs id → LiveG objs st id
theorem LiveG.has {objs : List GobL} {st : List Int} {id : Int} (h : LiveG objs st id) : hasG objs id := by
  cases h <;> assumption
/-- Ascending, each once. -/
def AscI (l : List Int) : Prop := l.Pairwise (· < ·)
theorem asc_unique : ∀ {l m : List Int}, AscI l → AscI m → (∀ z, z ∈ l ↔ z ∈ m) → l = m
  | [], [], _, _, _ => rfl
  | [], z :: m, _, _, h => by have := (h z).2 (by simp); simp at this
  | z :: l, [], _, _, h => by have := (h z).1 (by simp); simp at this
  | a :: l, b :: m, h1, h2, h => by
    have ha := List.pairwise_cons.1 h1
    have hb := List.pairwise_cons.1 h2
    have e : a = b := by
      have h3 := (h a).1 (by simp)
      have h4 := (h b).2 (by simp)
      rcases List.mem_cons.1 h3 with q | q
      · exact q
      · rcases List.mem_cons.1 h4 with r | r
        · exact r.symm
        · have := hb.1 a q
          have := ha.1 b r
          omega
    subst e
    congr 1
    refine asc_unique ha.2 hb.2 fun z => ?_
    constructor
    · intro hz
      have h3 := (h z).1 (by simp [hz])
      rcases List.mem_cons.1 h3 with q | q
      · have := ha.1 z hz; omega
      · exact q
    · intro hz
      have h3 := (h z).2 (by simp [hz])
      rcases List.mem_cons.1 h3 with q | q
      · have := hb.1 z hz; omega
      · exact q
/-- Where n belongs. -/
def atI (l : List Int) (n : Int) : Nat := (l.takeWhile fun z => decide (z < n)).length
def addI (l : List Int) (n : Int) : List Int := l.take (atI l n) ++ n :: l.drop (atI l n)
theorem atI_cons (z : Int) (l : List Int) (n : Int) : atI (z :: l) n = if z < n then atI l n + 1 else 0 := by
  unfold atI
  by_cases h : z < n <;> simp [h]
theorem addI_cons (z : Int) (l : List Int) (n : Int) : addI (z :: l) n = if z < n then z :: addI l n else n :: z :: l := by
  unfold addI
  rw [atI_cons]
  split <;> simp
theorem mem_addI {l : List Int} {n z : Int} : z ∈ addI l n ↔ z = n ∨ z ∈ l := by
  induction l with
  | nil => simp [addI, atI]
  | cons y l ih =>
    rw [addI_cons]
    split
    · simp only [List.mem_cons, ih]
      constructor
      · rintro (h | h | h)
        · exact .inr (.inl h)
        · exact .inl h
        · exact .inr (.inr h)
      · rintro (h | h | h)
        · exact .inr (.inl h)
        · exact .inl h
        · exact .inr (.inr h)
    · simp
theorem asc_addI {l : List Int} {n : Int} (h : AscI l) (hn : n ∉ l) : AscI (addI l n) := by
  induction l with
  | nil => simp [addI, atI, AscI]
  | cons y l ih =>
    have hy := List.pairwise_cons.1 h
    rw [addI_cons]
    split
    · rename_i hlt
      refine List.pairwise_cons.2 ⟨fun z hz => ?_, ih hy.2 (fun q => hn (by simp [q]))⟩
      rcases mem_addI.1 hz with rfl | hz
      · exact hlt
      · exact hy.1 z hz
    · rename_i hlt
      have hne : y ≠ n := fun q => hn (by simp [q])
      refine List.pairwise_cons.2 ⟨fun z hz => ?_, h⟩
      rcases List.mem_cons.1 hz with rfl | hz
      · omega
      · have := hy.1 z hz; omega
theorem addI_length (l : List Int) (n : Int) : (addI l n).length = l.length + 1 := by
  have : atI l n ≤ l.length := by unfold atI; exact (List.takeWhile_sublist _).length_le
  unfold addI
  simp only [List.length_append, List.length_take, List.length_cons, List.length_drop]
  omega
/-- What lives, ascending. -/
noncomputable def liveL (objs : List GobL) (st : List Int) : List Int :=
  haveI : DecidablePred (LiveG objs st) := fun _ => Classical.propDecidable _
  (objs.map GobL.id).foldl (fun l n => if LiveG objs st n ∧ n ∉ l then addI l n else l) []
theorem liveL_fold (objs : List GobL) (st : List Int) [DecidablePred (LiveG objs st)] : ∀ (ids l : List Int), AscI l → AscI (ids.foldl (fun l n => if LiveG objs st n ∧ n ∉ l then addI l n else l) l) ∧ ∀ z, z ∈ ids.foldl (fun l n => if LiveG objs st n ∧ n ∉ l then addI l n else l) l ↔ z ∈ l ∨ (z ∈ ids ∧ LiveG objs st z)
  | [], l, h => ⟨h, fun z => by simp⟩
  | n :: ids, l, h => by
    simp only [List.foldl_cons]
    split
    · rename_i hc
      obtain ⟨h1, h2⟩ := liveL_fold objs st ids _ (asc_addI h hc.2)
      refine ⟨h1, fun z => ?_⟩
      rw [h2, mem_addI]
      constructor
      · rintro ((rfl | h3) | ⟨h3, h4⟩)
        · exact .inr ⟨by simp, hc.1⟩
        · exact .inl h3
        · exact .inr ⟨by simp [h3], h4⟩
      · rintro (h3 | ⟨h3, h4⟩)
        · exact .inl (.inr h3)
        · rcases List.mem_cons.1 h3 with rfl | h3
          · exact .inl (.inl rfl)
          · exact .inr ⟨h3, h4⟩
    · rename_i hc
      obtain ⟨h1, h2⟩ := liveL_fold objs st ids l h
      refine ⟨h1, fun z => ?_⟩
      rw [h2]
      constructor
      · rintro (h3 | ⟨h3, h4⟩)
        · exact .inl h3
        · exact .inr ⟨by simp [h3], h4⟩
      · rintro (h3 | ⟨h3, h4⟩)
        · exact .inl h3
        · rcases List.mem_cons.1 h3 with rfl | h3
          · by_cases hm : z ∈ l
            · exact .inl hm
            · exact absurd ⟨h4, hm⟩ hc
          · exact .inr ⟨h3, h4⟩
theorem liveL_asc (objs : List GobL) (st : List Int) : AscI (liveL objs st) := (@liveL_fold objs st (fun _ => Classical.propDecidable _) (objs.map GobL.id) [] List.Pairwise.nil).1
theorem mem_liveL {objs : List GobL} {st : List Int} {z : Int} : z ∈ liveL objs st ↔ LiveG objs st z := by
  have := (@liveL_fold objs st (fun _ => Classical.propDecidable _) (objs.map GobL.id) [] List.Pairwise.nil).2 z
  refine this.trans ?_
  constructor
  · rintro (h | h)
    · simp at h
    · exact h.2
  · intro h
    obtain ⟨_, o, ho, e⟩ := h.has
    exact .inr ⟨by rw [← e]; exact List.mem_map_of_mem ho, h⟩
theorem liveL_of {objs : List GobL} {st out : List Int} (h1 : AscI out) (h2 : ∀ z, z ∈ out ↔ LiveG objs st z) : out = liveL objs st := asc_unique h1 (liveL_asc objs st) fun z => (h2 z).trans mem_liveL.symm
theorem asc_len : ∀ {l m : List Int}, AscI l → (∀ z ∈ l, z ∈ m) → l.length ≤ m.length
  | [], m, _, _ => by simp
  | z :: l, m, h, hs => by
    have hz := List.pairwise_cons.1 h
    have hm : z ∈ m := hs z (by simp)
    have ih := asc_len (m := m.erase z) hz.2 fun y hy => by
      have hne : y ≠ z := fun q => by have := hz.1 y hy; omega
      exact (List.mem_erase_of_ne hne).2 (hs y (by simp [hy]))
    have := List.length_erase_of_mem hm
    have := List.length_pos_of_mem hm
    simp only [List.length_cons]; omega
theorem liveL_len (objs : List GobL) (st : List Int) : (liveL objs st).length ≤ objs.length := by
  have := asc_len (m := objs.map GobL.id) (liveL_asc objs st) fun z hz => by
    obtain ⟨_, o, ho, e⟩ := (mem_liveL.1 hz).has
    rw [← e]; exact List.mem_map_of_mem ho
  simpa using this
/-! ### The search of the specification -/
/-- All objects of this Id are used. -/
def DoneG (objs : List GobL) (us : List Bool) (id : Int) : Prop := id ≠ 0 → ∀ i (h : i < objs.length), objs[i].id = id → us[i]? = some true
/-- Where the search stands: k objects have been asked for the Id cur (none: between two Ids). -/
structure SrG (objs : List GobL) (st todo : List Int) (us : List Bool) (out : List Int) (cur : Option (Int × Nat)) : Prop where
  len : us.length = objs.length
  live : ∀ i (h : i < objs.length), us[i]? = some true → LiveG objs st objs[i].id
  pend : ∀ z, (z ∈ st ∨ ∃ i, ∃ h : i < objs.length, us[i]? = some true ∧ z ∈ outG objs[i]) → z ∈ todo ∨ (∃ k, cur = some (z, k)) ∨ DoneG objs us z
  from_ : ∀ z, (z ∈ todo ∨ ∃ k, cur = some (z, k)) → hasG objs z → LiveG objs st z
  part : ∀ z k, cur = some (z, k) → z ≠ 0 → ∀ i (h : i < objs.length), i < k → objs[i].id = z → us[i]? = some true
  asc : AscI out
  mem : ∀ z, z ∈ out ↔ ∃ i, ∃ h : i < objs.length, us[i]? = some true ∧ objs[i].id = z
theorem SrG.start (objs : List GobL) (st : List Int) : SrG objs st st (List.replicate objs.length false) [] none := by
  have hf : ∀ i : Nat, (List.replicate objs.length false)[i]? = some true → False := fun i h => by
    rw [List.getElem?_replicate] at h
    split at h <;> simp at h
  refine ⟨by simp, fun i _ h => (hf i h).elim, fun z hz => ?_, fun z hz hh => ?_, fun z k h => by simp at h, List.Pairwise.nil, fun z => ⟨fun h => by simp at h, fun ⟨i, _, h, _⟩ => (hf i h).elim⟩⟩
  · rcases hz with hz | ⟨i, _, h, _⟩
    · exact .inl hz
    · exact (hf i h).elim
  · rcases hz with hz | ⟨k, hz⟩
    · exact .root hz hh
    · simp at hz
theorem SrG.pop {objs : List GobL} {st todo : List Int} {us : List Bool} {out : List Int} {z : Int} (h : SrG objs st (z :: todo) us out none) : SrG objs st todo us out (some (z, 0)) := by
  refine ⟨h.len, h.live, fun y hy => ?_, fun y hy hh => ?_, fun y k e _ i hi hk => ?_, h.asc, h.mem⟩
  · rcases h.pend y hy with q | ⟨k, q⟩ | q
    · rcases List.mem_cons.1 q with q | q
      · exact .inr (.inl ⟨0, by rw [q]⟩)
      · exact .inl q
    · simp at q
    · exact .inr (.inr q)
  · rcases hy with hy | ⟨k, hy⟩
    · exact h.from_ y (.inl (by simp [hy])) hh
    · have e : z = y := by simp at hy; exact hy.1
      exact h.from_ y (.inl (by simp [e])) hh
  · have e2 : 0 = k := by simp at e; exact e.2
    omega
theorem SrG.skip {objs : List GobL} {st todo : List Int} {us : List Bool} {out : List Int} {z : Int} {k : Nat} (h : SrG objs st todo us out (some (z, k))) (hk : k < objs.length) (hs : objs[k].id ≠ z ∨ us[k]? = some true ∨ z = 0) : SrG objs st todo us out (some (z, k + 1)) := by
  refine ⟨h.len, h.live, fun y hy => ?_, fun y hy hh => ?_, fun y j e hy0 i hi hj he => ?_, h.asc, h.mem⟩
  · rcases h.pend y hy with q | ⟨j, q⟩ | q
    · exact .inl q
    · have e : z = y := by simp at q; exact q.1
      exact .inr (.inl ⟨k + 1, by rw [e]⟩)
    · exact .inr (.inr q)
  · rcases hy with hy | ⟨j, hy⟩
    · exact h.from_ y (.inl hy) hh
    · have e : z = y := by simp at hy; exact hy.1
      exact h.from_ y (.inr ⟨k, by rw [e]⟩) hh
  · obtain ⟨e1, e2⟩ : z = y ∧ k + 1 = j := by simpa using e
    subst e1
    by_cases q : i = k
    · subst q
      rcases hs with hs | hs | hs
      · exact absurd he hs
      · exact hs
      · exact absurd hs hy0
    · exact h.part z k rfl hy0 i hi (by omega) he
theorem SrG.close {objs : List GobL} {st todo : List Int} {us : List Bool} {out : List Int} {z : Int} {k : Nat} (h : SrG objs st todo us out (some (z, k))) (hk : objs.length ≤ k) : SrG objs st todo us out none := by
  refine ⟨h.len, h.live, fun y hy => ?_, fun y hy hh => ?_, fun y j e => by simp at e, h.asc, h.mem⟩
  · rcases h.pend y hy with q | ⟨j, q⟩ | q
    · exact .inl q
    · have e : z = y := by simp at q; exact q.1
      subst e
      exact .inr (.inr fun h0 i hi he => h.part z k rfl h0 i hi (by omega) he)
    · exact .inr (.inr q)
  · rcases hy with hy | ⟨j, hy⟩
    · exact h.from_ y (.inl hy) hh
    · simp at hy
theorem SrG.take {objs : List GobL} {st todo : List Int} {us : List Bool} {out : List Int} {z : Int} {k : Nat} (h : SrG objs st todo us out (some (z, k))) (hk : k < objs.length) (he : objs[k].id = z) (h0 : z ≠ 0) : SrG objs st (todo ++ outG objs[k]) (us.set k true) (if z ∈ out then out else addI out z) (some (z, k + 1)) := by
  have hl : LiveG objs st z := h.from_ z (.inr ⟨k, rfl⟩) ⟨h0, _, List.getElem_mem hk, he⟩
  have hkl : k < us.length := by rw [h.len]; exact hk
  have hset : ∀ i : Nat, (us.set k true)[i]? = some true ↔ i = k ∨ us[i]? = some true := fun i => by
    by_cases e : i = k
    · subst e; simp [hkl]
    · rw [List.getElem?_set_ne (Ne.symm e)]; simp [e]
  refine ⟨by simp [h.len], fun i hi hu => ?_, fun y hy => ?_, fun y hy hh => ?_, fun y j e hy0 i hi hj hei => ?_, ?_, fun y => ?_⟩
  · rcases (hset i).1 hu with rfl | hu
    · rw [he]; exact hl
    · exact h.live i hi hu
  · have old : ∀ y, (y ∈ st ∨ ∃ i, ∃ h : i < objs.length, us[i]? = some true ∧ y ∈ outG objs[i]) → y ∈ todo ++ outG objs[k] ∨ (∃ j, (some (z, k + 1) : Option (Int × Nat)) = some (y, j)) ∨ DoneG objs (us.set k true) y := fun y hy => by
      rcases h.pend y hy with q | ⟨j, q⟩ | q
      · exact .inl (by simp [q])
      · have e : z = y := by simp at q; exact q.1
        exact .inr (.inl ⟨k + 1, by rw [e]⟩)
      · exact .inr (.inr fun y0 i hi e => (hset i).2 (.inr (q y0 i hi e)))
    rcases hy with hy | ⟨i, hi, hu, hy⟩
    · exact old y (.inl hy)
    · rcases (hset i).1 hu with rfl | hu
      · exact .inl (by simp [hy])
      · exact old y (.inr ⟨i, hi, hu, hy⟩)
  · rcases hy with hy | ⟨j, hy⟩
    · rcases List.mem_append.1 hy with hy | hy
      · exact h.from_ y (.inl hy) hh
      · exact .step (by rw [he]; exact hl) (List.getElem_mem hk) hy hh
    · have e : z = y := by simp at hy; exact hy.1
      rw [← e]; exact hl
  · obtain ⟨e1, e2⟩ : z = y ∧ k + 1 = j := by simpa using e
    subst e1
    refine (hset i).2 ?_
    by_cases q : i = k
    · exact .inl q
    · exact .inr (h.part z k rfl hy0 i hi (by omega) hei)
  · split
    · exact h.asc
    · rename_i hn; exact asc_addI h.asc hn
  · have key : (y = z ∨ y ∈ out) ↔ ∃ i, ∃ hi : i < objs.length, (us.set k true)[i]? = some true ∧ objs[i].id = y := by
      rw [h.mem]
      constructor
      · rintro (rfl | ⟨i, hi, hu, e⟩)
        · exact ⟨k, hk, (hset k).2 (.inl rfl), he⟩
        · exact ⟨i, hi, (hset i).2 (.inr hu), e⟩
      · rintro ⟨i, hi, hu, e⟩
        rcases (hset i).1 hu with rfl | hu
        · exact .inl (e.symm.trans he)
        · exact .inr ⟨i, hi, hu, e⟩
    rw [← key]
    split
    · rename_i hz
      constructor
      · exact .inr
      · rintro (rfl | q)
        · exact hz
        · exact q
    · exact mem_addI
theorem SrG.fin {objs : List GobL} {st : List Int} {us : List Bool} {out : List Int} (h : SrG objs st [] us out none) : out = liveL objs st := by
  have done : ∀ z, LiveG objs st z → DoneG objs us z := fun z hz => by
    induction hz with
    | root h1 h2 =>
      rcases h.pend _ (.inl h1) with q | ⟨k, q⟩ | q
      · simp at q
      · simp at q
      · exact q
    | step h1 h2 h3 h4 ih =>
      rename_i id o
      obtain ⟨i, hi, e⟩ := List.mem_iff_getElem.1 h2
      have hu := ih h1.has.1 i hi (by rw [e])
      rcases h.pend _ (.inr ⟨i, hi, hu, by rw [e]; exact h3⟩) with q | ⟨k, q⟩ | q
      · simp at q
      · simp at q
      · exact q
  refine liveL_of h.asc fun z => ?_
  rw [h.mem]
  constructor
  · rintro ⟨i, hi, hu, e⟩
    rw [← e]; exact h.live i hi hu
  · intro hz
    obtain ⟨h0, o, ho, e⟩ := hz.has
    obtain ⟨i, hi, ei⟩ := List.mem_iff_getElem.1 ho
    exact ⟨i, hi, done z hz h0 i hi (by rw [ei, e]), by rw [ei, e]⟩
end Go.Proofs.Ytedpocgmfpaeeaa
