/- What lives in a heap: the plain mathematics. -/
import Derived.Test.YtchcdlelaklnnaaRsP
import Derived.Test.YtchcdlelaklnnaaMrB
import Derived.Test.YtchcdlelaklnnaaRg
import Derived.Maps.AppendAt
import Derived.ArgAppend
import Derived.Laws.OwnMore
import Derived.Deep.QuietTactic
namespace Go.Proofs.Ytchcdlelaklnnaa
set_option linter.unusedVariables false
/-- The fields through which what they hold is reached. -/
def outG (o : GobL) : List Int := if 1 ≤ o.kind ∧ o.kind ≤ 3 then o.flds.drop 1 else o.flds
def hasG (objs : List GobL) (id : Int) : Prop := id ≠ 0 ∧ ∃ o ∈ objs, o.id = id
inductive LiveG (objs : List GobL) (st : List Int) : Int → Prop
  | root {id : Int} : id ∈ st → hasG objs id → LiveG objs st id
  | step {id : Int} {o : GobL} : LiveG objs st o.id → o ∈ objs → id ∈ outG o → hasG objs id → LiveG objs st id
theorem LiveG.has {objs : List GobL} {st : List Int} {id : Int} (h : LiveG objs st id) : hasG objs id := by
  cases h <;> assumption
/-- What lives, ascending. -/
noncomputable def liveL (objs : List GobL) (st : List Int) : List Int :=
  haveI : DecidablePred (LiveG objs st) := fun _ => Classical.propDecidable _
  (objs.map GobL.id).foldl (fun l n => if LiveG objs st n ∧ n ∉ l then addI l n else l) []
theorem liveL_fold (objs : List GobL) (st : List Int) [DecidablePred (LiveG objs st)] : ∀ (ids l : List Int), AscI l → AscI (ids.foldl (fun l n => if LiveG objs st n ∧ n ∉ l then addI l n else l) l) ∧ ∀ z, z ∈ ids.foldl (fun l n => if LiveG objs st n ∧ n ∉ l then addI l n else l) l ↔ z ∈ l ∨ (z ∈ ids ∧ LiveG objs st z)
  | [], l, h => ⟨h, fun z => by simp⟩
  | n :: ids, l, h => by
    simp only [List.foldl_cons]
    split
    · rename_i hc
      obtain ⟨h1, h2⟩ := liveL_fold objs st ids _ (asc_addI h hc.2)
      refine ⟨h1, fun z => ?_⟩
      rw [h2, mem_addI]
      constructor
      · rintro ((rfl | h3) | ⟨h3, h4⟩)
        · exact .inr ⟨by simp, hc.1⟩
        · exact .inl h3
        · exact .inr ⟨by simp [h3], h4⟩
      · rintro (h3 | ⟨h3, h4⟩)
        · exact .inl (.inr h3)
        · rcases List.mem_cons.1 h3 with rfl | h3
          · exact .inl (.inl rfl)
          · exact .inr ⟨h3, h4⟩
    · rename_i hc
      obtain ⟨h1, h2⟩ := liveL_fold objs st ids l h
      refine ⟨h1, fun z => ?_⟩
      rw [h2]
      constructor
      · rintro (h3 | ⟨h3, h4⟩)
        · exact .inl h3
        · exact .inr ⟨by simp [h3], h4⟩
      · rintro (h3 | ⟨h3, h4⟩)
        · exact .inl h3
        · rcases List.mem_cons.1 h3 with rfl | h3
          · by_cases hm : z ∈ l
            · exact .inl hm
            · exact absurd ⟨h4, hm⟩ hc
          · exact .inr ⟨h3, h4⟩
theorem liveL_asc (objs : List GobL) (st : List Int) : AscI (liveL objs st) := (@liveL_fold objs st (fun _ => Classical.propDecidable _) (objs.map GobL.id) [] List.Pairwise.nil).1
theorem mem_liveL {objs : List GobL} {st : List Int} {z : Int} : z ∈ liveL objs st ↔ LiveG objs st z := by
  have := (@liveL_fold objs st (fun _ => Classical.propDecidable _) (objs.map GobL.id) [] List.Pairwise.nil).2 z
  refine this.trans ?_
  constructor
  · rintro (h | h)
    · simp at h
    · exact h.2
  · intro h
    obtain ⟨_, o, ho, e⟩ := h.has
    exact .inr ⟨by rw [← e]; exact List.mem_map_of_mem ho, h⟩
theorem liveL_of {objs : List GobL} {st out : List Int} (h1 : AscI out) (h2 : ∀ z, z ∈ out ↔ LiveG objs st z) : out = liveL objs st := asc_unique h1 (liveL_asc objs st) fun z => (h2 z).trans mem_liveL.symm
theorem liveL_len (objs : List GobL) (st : List Int) : (liveL objs st).length ≤ objs.length := by
  have := asc_len (m := objs.map GobL.id) (liveL_asc objs st) fun z hz => by
    obtain ⟨_, o, ho, e⟩ := (mem_liveL.1 hz).has
    rw [← e]; exact List.mem_map_of_mem ho
  simpa using this
/-! ### The search of the specification -/
/-- All objects of this Id are used. -/
def DoneG (objs : List GobL) (us : List Bool) (id : Int) : Prop := id ≠ 0 → ∀ i (h : i < objs.length), objs[i].id = id → us[i]? = some true
/-- Where the search stands: k objects have been asked for the Id cur (none: between two Ids). -/
structure SrG (objs : List GobL) (st todo : List Int) (us : List Bool) (out : List Int) (cur : Option (Int × Nat)) : Prop where
  len : us.length = objs.length
  live : ∀ i (h : i < objs.length), us[i]? = some true → LiveG objs st objs[i].id
  pend : ∀ z, (z ∈ st ∨ ∃ i, ∃ h : i < objs.length, us[i]? = some true ∧ z ∈ outG objs[i]) → z ∈ todo ∨ (∃ k, cur = some (z, k)) ∨ DoneG objs us z
  from_ : ∀ z, (z ∈ todo ∨ ∃ k, cur = some (z, k)) → hasG objs z → LiveG objs st z
  part : ∀ z k, cur = some (z, k) → z ≠ 0 → ∀ i (h : i < objs.length), i < k → objs[i].id = z → us[i]? = some true
  asc : AscI out
  mem : ∀ z, z ∈ out ↔ ∃ i, ∃ h : i < objs.length, us[i]? = some true ∧ objs[i].id = z
theorem SrG.start (objs : List GobL) (st : List Int) : SrG objs st st (List.replicate objs.length false) [] none := by
  have hf : ∀ i : Nat, (List.replicate objs.length false)[i]? = some true → False := fun i h => by
    rw [List.getElem?_replicate] at h
    split at h <;> simp at h
  refine ⟨by simp, fun i _ h => (hf i h).elim, fun z hz => ?_, fun z hz hh => ?_, fun z k h => by simp at h, List.Pairwise.nil, fun z => ⟨fun h => by simp at h, fun ⟨i, _, h, _⟩ => (hf i h).elim⟩⟩
  · rcases hz with hz | ⟨i, _, h, _⟩
    · exact .inl hz
    · exact (hf i h).elim
  · rcases hz with hz | ⟨k, hz⟩
    · exact .root hz hh
    · simp at hz
theorem SrG.pop {objs : List GobL} {st todo : List Int} {us : List Bool} {out : List Int} {z : Int} (h : SrG objs st (z :: todo) us out none) : SrG objs st todo us out (some (z, 0)) := by
  refine ⟨h.len, h.live, fun y hy => ?_, fun y hy hh => ?_, fun y k e _ i hi hk => ?_, h.asc, h.mem⟩
  · rcases h.pend y hy with q | ⟨k, q⟩ | q
    · rcases List.mem_cons.1 q with q | q
      · exact .inr (.inl ⟨0, by rw [q]⟩)
      · exact .inl q
    · simp at q
    · exact .inr (.inr q)
  · rcases hy with hy | ⟨k, hy⟩
    · exact h.from_ y (.inl (by simp [hy])) hh
    · have e : z = y := by simp at hy; exact hy.1
      exact h.from_ y (.inl (by simp [e])) hh
  · have e2 : 0 = k := by simp at e; exact e.2
    omega
theorem SrG.skip {objs : List GobL} {st todo : List Int} {us : List Bool} {out : List Int} {z : Int} {k : Nat} (h : SrG objs st todo us out (some (z, k))) (hk : k < objs.length) (hs : objs[k].id ≠ z ∨ us[k]? = some true ∨ z = 0) : SrG objs st todo us out (some (z, k + 1)) := by
  refine ⟨h.len, h.live, fun y hy => ?_, fun y hy hh => ?_, fun y j e hy0 i hi hj he => ?_, h.asc, h.mem⟩
  · rcases h.pend y hy with q | ⟨j, q⟩ | q
    · exact .inl q
    · have e : z = y := by simp at q; exact q.1
      exact .inr (.inl ⟨k + 1, by rw [e]⟩)
    · exact .inr (.inr q)
  · rcases hy with hy | ⟨j, hy⟩
    · exact h.from_ y (.inl hy) hh
    · have e : z = y := by simp at hy; exact hy.1
      exact h.from_ y (.inr ⟨k, by rw [e]⟩) hh
  · obtain ⟨e1, e2⟩ : z = y ∧ k + 1 = j := by simpa using e
    subst e1
    by_cases q : i = k
    · subst q
      rcases hs with hs | hs | hs
      · exact absurd he hs
      · exact hs
      · exact absurd hs hy0
    · exact h.part z k rfl hy0 i hi (by omega) he
theorem SrG.close {objs : List GobL} {st todo : List Int} {us : List Bool} {out : List Int} {z : Int} {k : Nat} (h : SrG objs st todo us out (some (z, k))) (hk : objs.length ≤ k) : SrG objs st todo us out none := by
  refine ⟨h.len, h.live, fun y hy => ?_, fun y hy hh => ?_, fun y j e => by simp at e, h.asc, h.mem⟩
  · rcases h.pend y hy with q | ⟨j, q⟩ | q
    · exact .inl q
    · have e : z = y := by simp at q; exact q.1
      subst e
      exact .inr (.inr fun h0 i hi he => h.part z k rfl h0 i hi (by omega) he)
    · exact .inr (.inr q)
  · rcases hy with hy | ⟨j, hy⟩
    · exact h.from_ y (.inl hy) hh
    · simp at hy
theorem SrG.take {objs : List GobL} {st todo : List Int} {us : List Bool} {out : List Int} {z : Int} {k : Nat} (h : SrG objs st todo us out (some (z, k))) (hk : k < objs.length) (he : objs[k].id = z) (h0 : z ≠ 0) : SrG objs st (todo ++ outG objs[k]) (us.set k true) (if z ∈ out then out else addI out z) (some (z, k + 1)) := by
  have hl : LiveG objs st z := h.from_ z (.inr ⟨k, rfl⟩) ⟨h0, _, List.getElem_mem hk, he⟩
  have hkl : k < us.length := by rw [h.len]; exact hk
  have hset : ∀ i : Nat, (us.set k true)[i]? = some true ↔ i = k ∨ us[i]? = some true := fun i => by
    by_cases e : i = k
    · subst e; simp [hkl]
    · rw [List.getElem?_set_ne (Ne.symm e)]; simp [e]
  refine ⟨by simp [h.len], fun i hi hu => ?_, fun y hy => ?_, fun y hy hh => ?_, fun y j e hy0 i hi hj hei => ?_, ?_, fun y => ?_⟩
  · rcases (hset i).1 hu with rfl | hu
    · rw [he]; exact hl
    · exact h.live i hi hu
  · have old : ∀ y, (y ∈ st ∨ ∃ i, ∃ h : i < objs.length, us[i]? = some true ∧ y ∈ outG objs[i]) → y ∈ todo ++ outG objs[k] ∨ (∃ j, (some (z, k + 1) : Option (Int × Nat)) = some (y, j)) ∨ DoneG objs (us.set k true) y := fun y hy => by
      rcases h.pend y hy with q | ⟨j, q⟩ | q
      · exact .inl (by simp [q])
      · have e : z = y := by simp at q; exact q.1
        exact .inr (.inl ⟨k + 1, by rw [e]⟩)
      · exact .inr (.inr fun y0 i hi e => (hset i).2 (.inr (q y0 i hi e)))
    rcases hy with hy | ⟨i, hi, hu, hy⟩
    · exact old y (.inl hy)
    · rcases (hset i).1 hu with rfl | hu
      · exact .inl (by simp [hy])
      · exact old y (.inr ⟨i, hi, hu, hy⟩)
  · rcases hy with hy | ⟨j, hy⟩
    · rcases List.mem_append.1 hy with hy | hy
      · exact h.from_ y (.inl hy) hh
      · exact .step (by rw [he]; exact hl) (List.getElem_mem hk) hy hh
    · have e : z = y := by simp at hy; exact hy.1
      rw [← e]; exact hl
  · obtain ⟨e1, e2⟩ : z = y ∧ k + 1 = j := by simpa using e
    subst e1
    refine (hset i).2 ?_
    by_cases q : i = k
    · exact .inl q
    · exact .inr (h.part z k rfl hy0 i hi (by omega) hei)
  · split
    · exact h.asc
    · rename_i hn; exact asc_addI h.asc hn
  · have key : (y = z ∨ y ∈ out) ↔ ∃ i, ∃ hi : i < objs.length, (us.set k true)[i]? = some true ∧ objs[i].id = y := by
      rw [h.mem]
      constructor
      · rintro (rfl | ⟨i, hi, hu, e⟩)
        · exact ⟨k, hk, (hset k).2 (.inl rfl), he⟩
        · exact ⟨i, hi, (hset i).2 (.inr hu), e⟩
      · rintro ⟨i, hi, hu, e⟩
        rcases (hset i).1 hu with rfl | hu
        · exact .inl (e.symm.trans he)
        · exact .inr ⟨i, hi, hu, e⟩
    rw [← key]
    split
    · rename_i hz
      constructor
      · exact .inr
      · rintro (rfl | q)
        · exact hz
        · exact q
    · exact mem_addI
theorem SrG.fin {objs : List GobL} {st : List Int} {us : List Bool} {out : List Int} (h : SrG objs st [] us out none) : out = liveL objs st := by
  have done : ∀ z, LiveG objs st z → DoneG objs us z := fun z hz => by
    induction hz with
    | root h1 h2 =>
      rcases h.pend _ (.inl h1) with q | ⟨k, q⟩ | q
      · simp at q
      · simp at q
      · exact q
    | step h1 h2 h3 h4 ih =>
      rename_i id o
      obtain ⟨i, hi, e⟩ := List.mem_iff_getElem.1 h2
      have hu := ih h1.has.1 i hi (by rw [e])
      rcases h.pend _ (.inr ⟨i, hi, hu, by rw [e]; exact h3⟩) with q | ⟨k, q⟩ | q
      · simp at q
      · simp at q
      · exact q
  refine liveL_of h.asc fun z => ?_
  rw [h.mem]
  constructor
  · rintro ⟨i, hi, hu, e⟩
    rw [← e]; exact h.live i hi hu
  · intro hz
    obtain ⟨h0, o, ho, e⟩ := hz.has
    obtain ⟨i, hi, ei⟩ := List.mem_iff_getElem.1 ho
    exact ⟨i, hi, done z hz h0 i hi (by rw [ei, e]), by rw [ei, e]⟩
end Go.Proofs.Ytchcdlelaklnnaa

/- The lists of the specification: is an Id there, and set in its place. -/
namespace Go.Proofs.Ytchcdlelaklnnaa
set_option linter.unusedVariables false
open Go.ChangeShapes Go.WideShapes Go.ChangeAt Go.RowKit
end Go.Proofs.Ytchcdlelaklnnaa

/- What is still to be asked for: a slice somewhere in a row of the call's own. -/
namespace Go.Proofs.Ytchcdlelaklnnaa
set_option linter.unusedVariables false
open Go.RowKit

end Go.Proofs.Ytchcdlelaklnnaa

/- The search of the specification in memory: where it stands, and its steps. -/
namespace Go.Proofs.Ytchcdlelaklnnaa
set_option linter.unusedVariables false
open Go.RowKit Go.ChangeShapes Go.WideShapes Go.ChangeAt

/-- What the search may still do: each object not yet used counts itself and what it leads tof. -/
def wtG : List GobL → List Bool → Nat
  | o :: objs, u :: us => (if u then 0 else 1 + (outG o).length) + wtG objs us
  | _, _ => 0
theorem wtG_set : ∀ {objs : List GobL} {us : List Bool} {k : Nat} (hk : k < objs.length) (hu : us[k]? = some false), wtG objs (us.set k true) + 1 + (outG objs[k]).length = wtG objs us
  | o :: objs, u :: us, 0, _, hu => by
    simp at hu
    subst hu
    simp [wtG]
    omega
  | o :: objs, u :: us, k + 1, hk, hu => by
    have := wtG_set (objs := objs) (us := us) (k := k) (by simpa using hk) (by simpa using hu)
    simp only [List.set_cons_succ, wtG, List.getElem_cons_succ]
    omega
  | o :: objs, [], k, _, hu => by simp at hu
theorem wtG_le : ∀ (objs : List GobL) (us : List Bool), (∀ o ∈ objs, o.small) → wtG objs us ≤ objs.length * 1048577
  | [], us, _ => by simp [wtG]
  | o :: objs, [], _ => by simp [wtG]
  | o :: objs, u :: us, h => by
    have h1 := wtG_le objs us fun o ho => h o (by simp [ho])
    have h2 : (outG o).length ≤ 1048576 := by
      have := h o (by simp)
      unfold GobL.small at this
      unfold outG
      split
      · simp; omega
      · exact this
    simp only [wtG, List.length_cons]
    split <;> omega
/-- The marks of the used objects. -/
structure UsedAt (w : World) (b : Nat) (us : List Bool) : Prop where
  hi : b < w.heap.size
  cells : ∀ j (h : j < us.length), w.cell? ⟨b, j, none⟩ = some (.bool us[j])
  free : ∀ j, j < us.length → w.frozen? ⟨b, j, none⟩ = false
theorem UsedAt.kept {w w' : World} {b : Nat} {us : List Bool} (h : UsedAt w b us) (hb : w'.heap[b]? = w.heap[b]?) (hs : w.heap.size ≤ w'.heap.size) : UsedAt w' b us :=
  ⟨Nat.lt_of_lt_of_le h.hi hs, fun j hj => (World.cell?_of_block (w := w) hb).trans (h.cells j hj), fun j hj => (World.frozen?_of_block (w := w) hb).trans (h.free j hj)⟩
theorem UsedAt.set {w : World} {b : Nat} {us : List Bool} (h : UsedAt w b us) {k : Nat} (hk : k < us.length) : UsedAt (w.setCell ⟨b, k, none⟩ (.bool true)) b (us.set k true) := by
  refine ⟨by simpa [World.setCell] using h.hi, fun j hj => ?_, fun j hj => by rw [World.frozen?_setCell]; exact h.free j (by simpa using hj)⟩
  have hj' : j < us.length := by simpa using hj
  have hsome : ∀ i, i < [Value.bool true].length → (w.cell? ⟨b, k + i, none⟩).isSome = true := fun i hi => by
    obtain rfl : i = 0 := by simp at hi; omega
    simp [h.cells k hk]
  rw [← setCells_one]
  by_cases e : j = k
  · subst e
    have := World.cell?_setCells_in b [Value.bool true] j w hsome 0 (by simp)
    simpa using this
  · rw [World.cell?_setCells_out b _ _ _ _ (fun _ _ => by simp; omega), h.cells j hj']
    rw [List.getElem_set_ne (by omega)]
/-- What the marks in memory weigh. -/
def boolAt : Option Value → Bool
  | some (.bool b) => b
  | _ => false
def wtW (objs : List GobL) (b : Nat) (w : World) : Nat := wtG objs ((List.range objs.length).map fun j => boolAt (w.cell? ⟨b, j, none⟩))
theorem wtW_eq {objs : List GobL} {b : Nat} {w : World} {us : List Bool} (h : UsedAt w b us) (hl : us.length = objs.length) : wtW objs b w = wtG objs us := by
  unfold wtW
  congr 1
  refine List.ext_getElem (by simp [hl]) fun j h1 h2 => ?_
  simp [h.cells j h2, boolAt]
/-- Where the search stands in memory. -/
structure LvW (w wr : World) (row : List Value) (ub tb tof tc : Nat) (todo : List Int) (ob oc : Nat) (out : List Int) (us : List Bool) : Prop where
  hb : Below w.heap.size w wr
  box : wr.rangeAt w.heap.size 0 row
  bx : w.heap.size < wr.heap.size
  ul : w.heap.size < ub
  used : UsedAt wr ub us
  todo : TodoAt (w.heap.size + 1) wr tb tof tc todo
  out : OutAt (w.heap.size + 1) wr (.slice (some ⟨ob, 0, none⟩) out.length oc) out
  d1 : tb ≠ ub
  d2 : ob ≠ ub
  d3 : tb ≠ ob
theorem LvW.hsz {w wr : World} {row : List Value} {ub tb tof tc : Nat} {todo : List Int} {ob oc : Nat} {out : List Int} {us : List Bool} (h : LvW w wr row ub tb tof tc todo ob oc out us) : w.heap.size ≤ wr.heap.size := h.hb.size
theorem LvW.on {w wr W : World} {row : List Value} {ub tb tof tc : Nat} {todo : List Int} {ob oc : Nat} {out : List Int} {us : List Bool} (h : LvW w wr row ub tb tof tc todo ob oc out us) (hW : Below wr.heap.size wr W) : LvW w W row ub tb tof tc todo ob oc out us :=
  ⟨h.hb.trans (hW.mono h.hb.size), fun j v hv => (hW.cell (p := ⟨w.heap.size, 0 + j, none⟩) h.bx).trans (h.box j v hv), Nat.lt_of_lt_of_le h.bx hW.size, h.ul, h.used.kept (hW.block ub h.used.hi) hW.size, h.todo.below hW, h.out.below hW, h.d1, h.d2, h.d3⟩
theorem LvW.pop {w wr : World} {row : List Value} {ub tb tof tc : Nat} {z : Int} {todo : List Int} {ob oc : Nat} {out : List Int} {us : List Bool} (h : LvW w wr row ub tb tof tc (z :: todo) ob oc out us) : LvW w wr row ub tb (tof + 1) (tc - 1) todo ob oc out us :=
  ⟨h.hb, h.box, h.bx, h.ul, h.used, h.todo.tail, h.out, h.d1, h.d2, h.d3⟩
theorem LvW.pop0 {w wr : World} {row : List Value} {ub tb tof tc o' : Nat} {todo : List Int} {ob oc : Nat} {out : List Int} {us : List Bool} (h : LvW w wr row ub tb tof tc todo ob oc out us) : LvW w wr row ub tb o' 0 [] ob oc out us :=
  ⟨h.hb, h.box, h.bx, h.ul, h.used, h.todo.none, h.out, h.d1, h.d2, h.d3⟩
theorem LvW.mark {w wr : World} {row : List Value} {ub tb tof tc : Nat} {todo : List Int} {ob oc : Nat} {out : List Int} {us : List Bool} (h : LvW w wr row ub tb tof tc todo ob oc out us) {k : Nat} (hk : k < us.length) : LvW w (wr.setCell ⟨ub, k, none⟩ (.bool true)) row ub tb tof tc todo ob oc out (us.set k true) := by
  have hbk : ∀ g, g ≠ ub → (wr.setCell ⟨ub, k, none⟩ (.bool true)).heap[g]? = wr.heap[g]? := fun g hg => Below.heap_setCell _ _ _ _ hg
  have hs : wr.heap.size ≤ (wr.setCell ⟨ub, k, none⟩ (.bool true)).heap.size := by simp [World.setCell]
  have hul := h.ul
  exact ⟨h.hb.setCell (p := ⟨ub, k, none⟩) (Nat.le_of_lt h.ul) _, fun j v hv => (World.cell?_of_block (w := wr) (hbk w.heap.size (by omega))).trans (h.box j v hv), Nat.lt_of_lt_of_le h.bx hs, h.ul, h.used.set hk, h.todo.kept (hbk tb h.d1) hs, own_kept h.out (fun g hg => hbk g (by simp only [Value.ownBlock, Option.some.injEq] at hg; exact hg ▸ h.d2)), h.d1, h.d2, h.d3⟩
theorem LvW.add {w wr W : World} {row : List Value} {ub tb tof tc : Nat} {todo : List Int} {ob oc : Nat} {out : List Int} {us : List Bool} (h : LvW w wr row ub tb tof tc todo ob oc out us) (hW : Below wr.heap.size wr W) {g c : Nat} {out' : List Int} (ho : OutAt wr.heap.size W (.slice (some ⟨g, 0, none⟩) out'.length c) out') : LvW w W row ub tb tof tc todo g c out' us := by
  have hg := (World.ownsRow.lt ho g rfl).1
  have h1 := h.used.hi
  have h2 := h.todo.hi
  have h3 := h.bx
  have h' := h.on hW
  exact ⟨h'.hb, h'.box, h'.bx, h'.ul, h'.used, h'.todo, own_mono ho (by omega), h'.d1, by omega, by omega⟩
theorem LvW.push {w wr W : World} {row : List Value} {ub tb tof tc : Nat} {todo : List Int} {ob oc : Nat} {out : List Int} {us : List Bool} (h : LvW w wr row ub tb tof tc todo ob oc out us) (hg : wr.grownBy W (some tb)) {b' o' c' : Nat} {todo' : List Int} (ht : TodoAt (w.heap.size + 1) W b' o' c' todo') (hb' : b' = tb ∨ wr.heap.size ≤ b') : LvW w W row ub b' o' c' todo' ob oc out us := by
  have h1 := h.used.hi
  have h3 := h.bx
  have h4 := (World.ownsRow.lt h.out ob rfl).2
  have h5 := h.todo.lo
  have hd1 := h.d1
  have hd3 := h.d3
  refine ⟨h.hb.grown hg h.hb.size (fun k hk => by injection hk with hk; omega), fun j v hv => (World.cell?_of_block (w := wr) (hg.block w.heap.size h3 (by simp; omega))).trans (h.box j v hv), Nat.lt_of_lt_of_le h3 hg.size, h.ul, h.used.kept (hg.block ub h1 (by simp; omega)) hg.size, ht, World.ownsRow.kept h.out hg (.inr (by simp [Value.ownBlock]; omega)), by omega, h.d2, by omega⟩
end Go.Proofs.Ytchcdlelaklnnaa

/- spec.GcLive. -/
namespace Go.Proofs.Ytchcdlelaklnnaa
set_option linter.unusedVariables false
open Go.ChangeShapes Go.WideShapes Go.ChangeAt Go.RowKit

/-- How long a slice is. -/
def lenVG : Value → Nat
  | .slice _ n _ => n
  | _ => 0
/-- What the specification answers. -/
noncomputable def liveOf (x : GhpL) : List Int := if x.roots.length > 8 ∨ x.objs.length > 8000 ∨ x.queue.length > 8000 then [] else liveL x.objs (x.roots ++ x.queue)
theorem ints_cells {lo hi : Nat} {W : World} {v : Value} {zs : List Int} (h : ListAt IntR 1 true lo hi W v zs) : ∃ b c, v = .slice (some ⟨b, 0, none⟩) zs.length c ∧ zs.length ≤ c ∧ b < hi ∧ ∀ j (hj : j < zs.length), W.cell? ⟨b, j, none⟩ = some (.int .i64 zs[j]) := by
  rcases h with ⟨e, _⟩ | ⟨b, off, c, rfl, _, hb, hown, hr⟩
  · cases e
  · obtain ⟨rfl, _, hc⟩ := hown rfl
    refine ⟨b, c, rfl, hc, hb, fun j hj => ?_⟩
    obtain ⟨row, _, hra, hR, _⟩ := hr j hj
    have e : row = [.int .i64 zs[j]] := hR
    subst e
    have := hra 0 _ rfl
    simpa using this
theorem src_cellsG {W : World} {b n c o m : Nat} {zs : List Int} (h : ∀ j (hj : j < zs.length), W.cell? ⟨b, j, none⟩ = some (.int .i64 zs[j])) (hm : m ≤ zs.length) (ho : m < zs.length → o = m) (cc : Nat) : SrcAt W 1 (.slice (some ⟨b, o, none⟩) (zs.length - m) cc) (zs.length - m) (intsV (zs.drop m)) := by
  refine .inr ⟨⟨b, o, none⟩, cc, rfl, by rw [intsV_length]; simp, fun j u hj => ?_⟩
  obtain ⟨hj1, hj2⟩ := List.getElem?_eq_some_iff.1 hj
  have hjl : j < zs.length - m := by rw [intsV_length] at hj1; simpa using hj1
  obtain rfl := ho (by omega)
  rw [Addr.add_lit, h (o + j) (by omega), ← hj2]
  simp [intsV]
theorem out_intsG {B lo : Nat} {w : World} {g c : Nat} {zs : List Int} (h : OutAt B w (.slice (some ⟨g, 0, none⟩) zs.length c) zs) (hB : lo ≤ B) : IntsAt lo w.heap.size w (.slice (some ⟨g, 0, none⟩) zs.length c) zs :=
  .inr ⟨g, c, rfl, Nat.le_trans hB (World.ownsRow.lt h g rfl).1, (World.ownsRow.lt h g rfl).2, fun j hj => ⟨by rw [Nat.zero_add, h.cell hj]; rfl, World.ownsRow.frozenAt h _⟩, fun j hj => h.cell hj⟩
/-- An object in memory. -/
structure GobAt (w : World) (b k : Nat) (o : GobL) (fb fc : Nat) : Prop where
  c0 : w.cell? ⟨b, k * 5, none⟩ = some (.int .i64 o.id)
  c1 : w.cell? ⟨b, k * 5 + 1, none⟩ = some (.int .i64 o.adr)
  c2 : w.cell? ⟨b, k * 5 + 2, none⟩ = some (.int .i64 o.age)
  c3 : w.cell? ⟨b, k * 5 + 3, none⟩ = some (.int .i64 o.kind)
  c4 : w.cell? ⟨b, k * 5 + 4, none⟩ = some (.slice (some ⟨fb, 0, none⟩) o.flds.length fc)
  cap : o.flds.length ≤ fc
  fl : ∀ j (hj : j < o.flds.length), w.cell? ⟨fb, j, none⟩ = some (.int .i64 o.flds[j])
theorem gobs_cells {lo hi : Nat} {W : World} {v : Value} {objs : List GobL} (h : ListAt GobR 5 true lo hi W v objs) : ∃ b c, v = .slice (some ⟨b, 0, none⟩) objs.length c ∧ objs.length ≤ c ∧ b < hi ∧ ∀ k (hk : k < objs.length), ∃ fb fc, fb < hi ∧ GobAt W b k objs[k] fb fc := by
  rcases h with ⟨e, _⟩ | ⟨b, off, c, rfl, _, hb, hown, hr⟩
  · cases e
  · obtain ⟨rfl, _, hc⟩ := hown rfl
    refine ⟨b, c, rfl, hc, hb, fun k hk => ?_⟩
    obtain ⟨row, _, hra, ⟨v, e, hv⟩, _⟩ := hr k hk
    subst e
    obtain ⟨fb, fc, rfl, hfc, hfb, hfl⟩ := ints_cells hv
    have h0 := hra 0 _ rfl
    have h1 := hra 1 _ rfl
    have h2 := hra 2 _ rfl
    have h3 := hra 3 _ rfl
    have h4 := hra 4 _ rfl
    simp only [Nat.zero_add, Nat.add_zero] at h0 h1 h2 h3 h4
    exact ⟨fb, fc, hfb, h0, h1, h2, h3, h4, hfc, hfl⟩
theorem GobAt.below {w w' : World} {B b k : Nat} {o : GobL} {fb fc : Nat} (h : GobAt w b k o fb fc) (hB : Below B w w') (hb : b < B) (hf : fb < B) : GobAt w' b k o fb fc :=
  ⟨(hB.cell (p := ⟨b, _, none⟩) hb).trans h.c0, (hB.cell (p := ⟨b, _, none⟩) hb).trans h.c1, (hB.cell (p := ⟨b, _, none⟩) hb).trans h.c2, (hB.cell (p := ⟨b, _, none⟩) hb).trans h.c3, (hB.cell (p := ⟨b, _, none⟩) hb).trans h.c4, h.cap, fun j hj => (hB.cell (p := ⟨fb, _, none⟩) hf).trans (h.fl j hj)⟩
theorem wpList_append_src1 {P : Program} {w : World} {ops : Array Oper} {rest : List Oper} {o : Oper} {a : Act} {Q : Exit → Act → World → Prop} (hgd : o.guard = none) (s x : Operand) (t : TypeId)
    (ho : o.op = .call { callee := .builtin .append, args := #[s, x], argTypes := #[t, t] })
    (e : TypeId) (i : TypeInfo) (z : Value) (size bytes : Nat) (ht : P.underlying t = some (.slice e)) (hi : P.info? e = some i) (hz : i.zero = some z)
    (hsize : i.size = size) (hby : i.bytes = bytes) (hzs : z.cells.size = size) (hsz : 0 < size)
    (b : Nat) (hs : a.eval s = .slice (some ⟨b, 0, none⟩) 0 0)
    (xv : Value) (m : Nat) (news : List Value) (hx : a.eval x = xv) (hsrc : SrcAt w size xv m news) (h1 : ∀ u ∈ news, u.oneCell' = true)
    (h63 : m ≤ maxLen) (hbytes : m * bytes ≤ 140737488355328)
    (hK1 : m = 0 → news = [] → wpList P ops Q rest (a.put o.dst (.slice (some ⟨b, 0, none⟩) 0 0)) w)
    (hK2 : 0 < m → ∀ v' w', w'.ownsRow w.heap.size e size v' m news → w.grownBy w' none → wpList P ops Q rest (a.put o.dst v') w') :
    wpList P ops Q (o :: rest) a w := by
  rcases hsrc with ⟨e1, e2, e3⟩ | ⟨ad, c, e1, hl, hc⟩
  · subst e1; subst e2; subst e3
    refine wpList_plain hgd fun K hK => ?_
    have hr : (Builtin.append_ #[t, t] o.type #[.slice (some ⟨b, 0, none⟩) 0 0, .slice none 0 0]).run P w = .ok (.slice (some ⟨b, 0, none⟩) 0 0) w := by
      simp [Builtin.append_, run_underlying ht, sizeOf, typeInfo, hi, Builtin.lenOf, Builtin.firstCells, storeCells]
    unfold Oper.wp execOp
    simp only [ho, resolve, invoke, builtin, Sem.run_bind, Sem.run_pure, Result.andThen_ok, List.map_toArray, List.map_cons, List.map_nil, hs, hx, hr]
    exact hK _ _ (hK1 rfl rfl)
  · subst e1
    refine wpList_append_arg w hgd s x t ho e i z size bytes ht hi hz hsize hby hzs hsz b 0 0 0 [] hs (by simp) (fun j u hj => by simp at hj) ad m c news hx hl hc h1 (fun h j hj => absurd hj (by rw [hl, show m = 0 by omega]; omega)) (by omega) (by simpa using hbytes) (fun h => ?_) (fun h v' w' a1 a2 => hK2 (by omega) v' w' (by simpa using a1) a2)
    have hm : m = 0 := by omega
    have hnil : news = [] := List.eq_nil_of_length_eq_zero (by rw [hl, hm]; simp)
    have := hK1 hm hnil
    subst hm
    subst hnil
    exact this
/-- The values of the region that sets the roots and the queue one behind the other. -/
def bgVal (p1 v1 p2 v2 : Value) (rs : List Int) : Nat → Value → Nat → Nat → World → Prop
  | 0, v, lo, hi, w => v = .slice (some ⟨lo, 0, none⟩) 0 0 ∧ OwnInK lo hi w 2 1 v 0 []
  | 1, v, _, _, _ => v = p1
  | 2, v, _, _, _ => v = v1
  | 3, v, lo, hi, w => (∃ g c, v = .slice (some ⟨g, 0, none⟩) rs.length c) ∧ OwnInK lo hi w 2 1 v rs.length (intsV rs)
  | 4, v, _, _, _ => v = p2
  | _, v, _, _, _ => v = v2
theorem bgVal_below (p1 v1 p2 v2 : Value) (rs : List Int) : ∀ i v lo hi (w w' : World), Below w.heap.size w w' → hi ≤ w.heap.size → bgVal p1 v1 p2 v2 rs i v lo hi w → bgVal p1 v1 p2 v2 rs i v lo hi w' := by
  intro i v lo hi w w' hb hh h
  match i, h with
  | 0, h => exact ⟨h.1, OwnInK.below h.2 hb hh⟩
  | 1, h => exact h
  | 2, h => exact h
  | 3, h => exact ⟨h.1, OwnInK.below h.2 hb hh⟩
  | 4, h => exact h
  | i + 5, h => exact h
def bgSrc : Nat → Option Nat
  | 3 => some 0
  | _ => none
theorem bgSrc_cases {i j : Nat} (h : bgSrc i = some j) : i = 3 ∧ j = 0 := by
  unfold bgSrc at h
  split at h <;> simp_all
def bgRR (B : Nat) (w0 : World) (zs : List Int) : Nat → (Nat → Value) → World → Prop := fun _ vs W => Below B w0 W ∧ ∃ b o c, vs 6 = .slice (some ⟨b, o, none⟩) zs.length c ∧ TodoAt B W b o c zs
/-- The object of the round, a copy of the call's own. -/
structure OAt (w : World) (g : Nat) (o : GobL) (fb fc : Nat) : Prop where
  hi : g < w.heap.size
  c0 : w.cell? ⟨g, 0, none⟩ = some (.int .i64 o.id)
  c3 : w.cell? ⟨g, 3, none⟩ = some (.int .i64 o.kind)
  c4 : w.cell? ⟨g, 4, none⟩ = some (.slice (some ⟨fb, 0, none⟩) o.flds.length fc)
theorem OAt.kept {w w' : World} {g : Nat} {o : GobL} {fb fc : Nat} (h : OAt w g o fb fc) (hb : w'.heap[g]? = w.heap[g]?) (hs : w.heap.size ≤ w'.heap.size) : OAt w' g o fb fc :=
  ⟨Nat.lt_of_lt_of_le h.hi hs, (World.cell?_of_block (w := w) hb).trans h.c0, (World.cell?_of_block (w := w) hb).trans h.c3, (World.cell?_of_block (w := w) hb).trans h.c4⟩
theorem OAt.below {w w' : World} {g : Nat} {o : GobL} {fb fc : Nat} (h : OAt w g o fb fc) (hb : Below w.heap.size w w') : OAt w' g o fb fc := h.kept (hb.block g h.hi) hb.size
theorem SrG.outlen {objs : List GobL} {st todo : List Int} {us : List Bool} {out : List Int} {cur : Option (Int × Nat)} (h : SrG objs st todo us out cur) : out.length ≤ objs.length := by
  have := asc_len (m := objs.map GobL.id) h.asc fun z hz => by
    obtain ⟨i, hi, _, e⟩ := (h.mem z).1 hz
    rw [← e]; exact List.mem_map_of_mem (List.getElem_mem hi)
  simpa using this

end Go.Proofs.Ytchcdlelaklnnaa
