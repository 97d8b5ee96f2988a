/- The search of spec.MarkReached: the plain mathematics, and where it stands in memory. -/
import Derived.Test.YtedpocgmfpaeeaaMpV
namespace Go.Proofs.Ytedpocgmfpaeeaa
set_option linter.unusedVariables false
open Go.ChangeShapes Go.WideShapes Go.ChangeAt Go.RowKit

/-- What the objects of an id lead to, and whether there are any. -/
def leadM (id : Int) (os : List MobL) : List Int := os.flatMap fun o => if o.id = id then o.flds else []
def hitM (id : Int) (os : List MobL) : Bool := os.any fun o => decide (o.id = id)
def outM (id : Int) (out : List Int) (os : List MobL) : List Int := if hitM id os then addI out id else out
theorem leadM_take {id : Int} {objs : List MobL} {m : Nat} (h : m < objs.length) : leadM id (objs.take (m + 1)) = leadM id (objs.take m) ++ (if objs[m].id = id then objs[m].flds else []) := by
  unfold leadM
  rw [List.take_add_one, List.getElem?_eq_getElem h, List.flatMap_append]
  simp
theorem hitM_take {id : Int} {objs : List MobL} {m : Nat} (h : m < objs.length) : hitM id (objs.take (m + 1)) = (hitM id (objs.take m) || decide (objs[m].id = id)) := by
  unfold hitM
  rw [List.take_add_one, List.getElem?_eq_getElem h, List.any_append]
  simp
theorem hitM_iff {id : Int} {os : List MobL} : hitM id os = true ↔ ∃ o ∈ os, o.id = id := by simp [hitM]
theorem mem_leadM {id y : Int} {os : List MobL} : y ∈ leadM id os ↔ ∃ o ∈ os, o.id = id ∧ y ∈ o.flds := by
  unfold leadM
  simp only [List.mem_flatMap]
  constructor
  · rintro ⟨o, ho, hy⟩
    split at hy
    · exact ⟨o, ho, by assumption, hy⟩
    · simp at hy
  · rintro ⟨o, ho, e, hy⟩
    exact ⟨o, ho, by rw [if_pos e]; exact hy⟩
theorem outM_zero (id : Int) (out : List Int) (objs : List MobL) : outM id out (objs.take 0) = out := by simp [outM, hitM]
theorem leadM_zero (id : Int) (objs : List MobL) : leadM id (objs.take 0) = [] := by simp [leadM]
theorem outM_skip {id : Int} {out : List Int} {objs : List MobL} {m : Nat} (h : m < objs.length) (e : ¬ objs[m].id = id) : outM id out (objs.take (m + 1)) = outM id out (objs.take m) := by
  unfold outM
  rw [hitM_take h, decide_eq_false e, Bool.or_false]
theorem leadM_skip {id : Int} {objs : List MobL} {m : Nat} (h : m < objs.length) (e : ¬ objs[m].id = id) : leadM id (objs.take (m + 1)) = leadM id (objs.take m) := by
  rw [leadM_take h, if_neg e, List.append_nil]
theorem outM_hit {id : Int} {out : List Int} {objs : List MobL} {m : Nat} (h : m < objs.length) (e : objs[m].id = id) : outM id out (objs.take (m + 1)) = addI out id := by
  unfold outM
  rw [hitM_take h, decide_eq_true e, Bool.or_true, if_pos rfl]
theorem outM_mem {id : Int} {out : List Int} {os : List MobL} (hn : id ∉ out) : id ∈ outM id out os ↔ hitM id os = true := by
  unfold outM
  split
  · rename_i h
    simp [h, mem_addI]
  · rename_i h
    simp [h, hn]
/-- Where the search stands. -/
structure MrG (objs : List MobL) (st todo out : List Int) : Prop where
  asc : AscI out
  live : ∀ z ∈ out, LiveG (objs.map gobOf) st z
  todoL : ∀ z ∈ todo, hasG (objs.map gobOf) z → LiveG (objs.map gobOf) st z
  cl : ∀ z ∈ out, ∀ o ∈ objs, o.id = z → ∀ y ∈ o.flds, hasG (objs.map gobOf) y → y ∈ out ∨ y ∈ todo
  rt : ∀ z ∈ st, hasG (objs.map gobOf) z → z ∈ out ∨ z ∈ todo
theorem MrG.start (objs : List MobL) (st : List Int) : MrG objs st st [] :=
  ⟨List.Pairwise.nil, fun z hz => by simp at hz, fun z hz hh => .root hz hh, fun z hz => by simp at hz, fun z hz _ => .inr hz⟩
theorem MrG.skip {objs : List MobL} {st todo out : List Int} {z : Int} (h : MrG objs st (z :: todo) out) (hz : z = 0 ∨ z ∈ out) : MrG objs st todo out := by
  have key : ∀ y, hasG (objs.map gobOf) y → y ∈ out ∨ y ∈ z :: todo → y ∈ out ∨ y ∈ todo := fun y hy q => by
    rcases q with q | q
    · exact .inl q
    · rcases List.mem_cons.1 q with rfl | q
      · rcases hz with e | e
        · exact absurd e hy.1
        · exact .inl e
      · exact .inr q
  exact ⟨h.asc, h.live, fun y hy => h.todoL y (by simp [hy]), fun y hy o ho e u hu hh => key u hh (h.cl y hy o ho e u hu hh), fun y hy hh => key y hh (h.rt y hy hh)⟩
theorem MrG.take {objs : List MobL} {st todo out : List Int} {z : Int} (h : MrG objs st (z :: todo) out) (h0 : z ≠ 0) (hn : z ∉ out) : MrG objs st (todo ++ leadM z objs) (outM z out objs) := by
  have hhas : hitM z objs = true → hasG (objs.map gobOf) z := fun q => by
    obtain ⟨o, ho, e⟩ := hitM_iff.1 q
    exact ⟨h0, gobOf o, List.mem_map_of_mem ho, e⟩
  have hof : hasG (objs.map gobOf) z → hitM z objs = true := fun q => by
    obtain ⟨_, g, hg, e⟩ := q
    obtain ⟨o, ho, rfl⟩ := List.mem_map.1 hg
    exact hitM_iff.2 ⟨o, ho, e⟩
  have hsub : ∀ y ∈ out, y ∈ outM z out objs := fun y hy => by
    unfold outM
    split
    · exact mem_addI.2 (.inr hy)
    · exact hy
  have hmem : ∀ y ∈ outM z out objs, y ∈ out ∨ (y = z ∧ hitM z objs = true) := fun y hy => by
    unfold outM at hy
    split at hy
    · rename_i q
      rcases mem_addI.1 hy with e | e
      · exact .inr ⟨e, q⟩
      · exact .inl e
    · exact .inl hy
  have hlz : hitM z objs = true → LiveG (objs.map gobOf) st z := fun q => h.todoL z (by simp) (hhas q)
  have key : ∀ y, hasG (objs.map gobOf) y → y ∈ out ∨ y ∈ z :: todo → y ∈ outM z out objs ∨ y ∈ todo ++ leadM z objs := fun y hy q => by
    rcases q with q | q
    · exact .inl (hsub y q)
    · rcases List.mem_cons.1 q with rfl | q
      · exact .inl ((outM_mem hn).2 (hof hy))
      · exact .inr (List.mem_append_left _ q)
  refine ⟨?_, fun y hy => ?_, fun y hy hh => ?_, fun y hy o ho e u hu hh => ?_, fun y hy hh => key y hh (h.rt y hy hh)⟩
  · unfold outM
    split
    · exact asc_addI h.asc hn
    · exact h.asc
  · rcases hmem y hy with q | ⟨rfl, q⟩
    · exact h.live y q
    · exact hlz q
  · rcases List.mem_append.1 hy with q | q
    · exact h.todoL y (by simp [q]) hh
    · obtain ⟨o, ho, e, hu⟩ := mem_leadM.1 q
      refine .step (o := gobOf o) ?_ (List.mem_map_of_mem ho) ?_ hh
      · show LiveG _ _ o.id
        rw [e]
        exact hlz (hitM_iff.2 ⟨o, ho, e⟩)
      · have : outG (gobOf o) = o.flds := if_neg (fun q => by have := q.1; simp [gobOf] at this)
        rw [this]
        exact hu
  · rcases hmem y hy with q | ⟨rfl, q⟩
    · exact key u hh (h.cl y q o ho e u hu hh)
    · exact .inr (List.mem_append_right _ (mem_leadM.2 ⟨o, ho, e, hu⟩))
theorem MrG.fin {objs : List MobL} {st out : List Int} (h : MrG objs st [] out) : out = liveL (objs.map gobOf) st := by
  refine liveL_of h.asc fun z => ⟨h.live z, fun hl => ?_⟩
  induction hl with
  | root h1 h2 => simpa using h.rt _ h1 h2
  | @step id o hp ho hid hh ih =>
    obtain ⟨m, hm, rfl⟩ := List.mem_map.1 ho
    have : outG (gobOf m) = m.flds := if_neg (fun q => by have := q.1; simp [gobOf] at this)
    rw [this] at hid
    simpa using h.cl _ ih m hm rfl id hid hh
theorem MrG.outlen {objs : List MobL} {st todo out : List Int} (h : MrG objs st todo out) : out.length ≤ objs.length := by
  have := asc_len (m := objs.map MobL.id) h.asc fun z hz => by
    obtain ⟨_, g, hg, e⟩ := (h.live z hz).has
    obtain ⟨o, ho, rfl⟩ := List.mem_map.1 hg
    rw [← e]
    exact List.mem_map_of_mem (f := MobL.id) ho
  simpa using this
/-- What the search may still do. -/
def wtM (out : List Int) : List MobL → Nat
  | [] => 0
  | o :: objs => (if o.id ∈ out then 0 else o.flds.length) + wtM out objs
theorem wtM_add (out : List Int) (z : Int) (hn : z ∉ out) : ∀ objs : List MobL, wtM (addI out z) objs + (leadM z objs).length = wtM out objs
  | [] => by simp [wtM, leadM]
  | o :: objs => by
    have ih := wtM_add out z hn objs
    have e : leadM z (o :: objs) = (if o.id = z then o.flds else []) ++ leadM z objs := by simp [leadM]
    rw [e, List.length_append]
    simp only [wtM, mem_addI]
    by_cases h1 : o.id = z
    · have h2 : ¬ o.id ∈ out := by rw [h1]; exact hn
      simp only [h1, true_or, if_true, hn, if_false]
      omega
    · by_cases h2 : o.id ∈ out
      · simp only [h1, h2, or_true, if_true, if_false, List.length_nil]
        omega
      · simp only [h1, h2, or_self, if_false, List.length_nil]
        omega
theorem wtM_take (out : List Int) (z : Int) (hn : z ∉ out) (objs : List MobL) : wtM (outM z out objs) objs + (leadM z objs).length = wtM out objs := by
  unfold outM
  split
  · exact wtM_add out z hn objs
  · rename_i h
    have : leadM z objs = [] := List.eq_nil_iff_forall_not_mem.2 fun y hy => by
      obtain ⟨o, ho, e, _⟩ := mem_leadM.1 hy
      exact h (hitM_iff.2 ⟨o, ho, e⟩)
    rw [this]
    simp
theorem wtM_le : ∀ (out : List Int) (objs : List MobL), (∀ o ∈ objs, o.small) → wtM out objs ≤ objs.length * 1048576
  | out, [], _ => by simp [wtM]
  | out, o :: objs, h => by
    have h1 := wtM_le out objs fun o ho => h o (by simp [ho])
    have h2 : o.flds.length ≤ 1048576 := h o (by simp)
    simp only [wtM, List.length_cons]
    split <;> omega
theorem leadM_take_le (id : Int) (objs : List MobL) (m : Nat) : (leadM id (objs.take m)).length ≤ (leadM id objs).length := by
  have e : leadM id objs = leadM id (objs.take m) ++ leadM id (objs.drop m) := by
    unfold leadM
    rw [← List.flatMap_append, List.take_append_drop]
  rw [e, List.length_append]
  omega
/-- The numbers of a row in memory, read. -/
def intsW (v : Value) (w : World) : List Int :=
  match v with
  | .slice (some a) n _ => (List.range n).map fun j => ((w.cell? ⟨a.block, j, none⟩).map intOf).getD 0
  | _ => []
theorem intsW_eq {B : Nat} {w : World} {g c : Nat} {zs : List Int} (h : OutAt B w (.slice (some ⟨g, 0, none⟩) zs.length c) zs) : intsW (.slice (some ⟨g, 0, none⟩) zs.length c) w = zs := by
  unfold intsW
  refine List.ext_getElem (by simp) fun j h1 h2 => ?_
  simp [h.cell h2, intOf]
/-- Where the search stands in memory. -/
structure MvW (w wr : World) (row : List Value) (tb to tc : Nat) (todo : List Int) (ob oc : Nat) (out : List Int) : Prop where
  hb : Below w.heap.size w wr
  box : wr.rangeAt w.heap.size 0 row
  bx : w.heap.size < wr.heap.size
  todo : TodoAt (w.heap.size + 1) wr tb to tc todo
  out : OutAt (w.heap.size + 1) wr (.slice (some ⟨ob, 0, none⟩) out.length oc) out
  d3 : tb ≠ ob
theorem MvW.on {w wr W : World} {row : List Value} {tb to tc : Nat} {todo : List Int} {ob oc : Nat} {out : List Int} (h : MvW w wr row tb to tc todo ob oc out) (hW : Below wr.heap.size wr W) : MvW w W row tb to tc todo ob oc out :=
  ⟨h.hb.trans (hW.mono h.hb.size), fun j v hv => (hW.cell (p := ⟨w.heap.size, 0 + j, none⟩) h.bx).trans (h.box j v hv), Nat.lt_of_lt_of_le h.bx hW.size, h.todo.below hW, h.out.below hW, h.d3⟩
theorem MvW.pop {w wr : World} {row : List Value} {tb to tc : Nat} {z : Int} {todo : List Int} {ob oc : Nat} {out : List Int} (h : MvW w wr row tb to tc (z :: todo) ob oc out) : MvW w wr row tb (to + 1) (tc - 1) todo ob oc out :=
  ⟨h.hb, h.box, h.bx, h.todo.tail, h.out, h.d3⟩
theorem MvW.pop0 {w wr : World} {row : List Value} {tb to tc o' : Nat} {todo : List Int} {ob oc : Nat} {out : List Int} (h : MvW w wr row tb to tc todo ob oc out) : MvW w wr row tb o' 0 [] ob oc out :=
  ⟨h.hb, h.box, h.bx, h.todo.none, h.out, h.d3⟩
theorem MvW.add {w wr W : World} {row : List Value} {tb to tc : Nat} {todo : List Int} {ob oc : Nat} {out : List Int} (h : MvW w wr row tb to tc todo ob oc out) (hW : Below wr.heap.size wr W) {g c : Nat} {out' : List Int} (ho : OutAt wr.heap.size W (.slice (some ⟨g, 0, none⟩) out'.length c) out') : MvW w W row tb to tc todo g c out' := by
  have hg := (World.ownsRow.lt ho g rfl).1
  have h2 := h.todo.hi
  have h3 := h.bx
  have h' := h.on hW
  exact ⟨h'.hb, h'.box, h'.bx, h'.todo, own_mono ho (by omega), by omega⟩
theorem MvW.push {w wr W : World} {row : List Value} {tb to tc : Nat} {todo : List Int} {ob oc : Nat} {out : List Int} (h : MvW w wr row tb to tc todo ob oc out) (hg : wr.grownBy W (some tb)) {b' o' c' : Nat} {todo' : List Int} (ht : TodoAt (w.heap.size + 1) W b' o' c' todo') (hb' : b' = tb ∨ wr.heap.size ≤ b') : MvW w W row b' o' c' todo' ob oc out := by
  have h3 := h.bx
  have h4 := (World.ownsRow.lt h.out ob rfl).2
  have h5 := h.todo.lo
  have hd3 := h.d3
  refine ⟨h.hb.grown hg h.hb.size (fun k hk => by injection hk with hk; omega), fun j v hv => (World.cell?_of_block (w := wr) (hg.block w.heap.size h3 (by simp; omega))).trans (h.box j v hv), Nat.lt_of_lt_of_le h3 hg.size, ht, World.ownsRow.kept h.out hg (.inr (by simp [Value.ownBlock]; omega)), by omega⟩
end Go.Proofs.Ytedpocgmfpaeeaa
