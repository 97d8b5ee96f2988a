/- What is reached in a heap that was told: the plain mathematics. -/
import Derived.Test.YtchcdlelaklnnaaMaD
import Derived.Test.YtchcdlelaklnnaaGn
import Derived.Test.YtchcdlelaklnnaaRg
import Derived.Maps.AppendAt
import Derived.ArgAppend
import Derived.Laws.OwnMore
import Derived.Deep.QuietTactic
namespace Go.Proofs.Ytchcdlelaklnnaa
set_option linter.unusedVariables false
def ObP.small (o : ObP) : Prop := o.flds.length ≤ 1048576
def hasP (objs : List ObP) (id : Int) : Prop := id ≠ 0 ∧ ∃ o ∈ objs, o.id = id
inductive LvP (objs : List ObP) (st : List Int) : Int → Prop
  | root {id : Int} : id ∈ st → hasP objs id → LvP objs st id
  | step {id : Int} {o : ObP} : LvP objs st o.id → o ∈ objs → id ∈ o.flds → hasP objs id → LvP objs st id
theorem LvP.has {objs : List ObP} {st : List Int} {id : Int} (h : LvP objs st id) : hasP objs id := by
  cases h <;> assumption
/-- Ascending, each once. -/
def AscI (l : List Int) : Prop := l.Pairwise (· < ·)
theorem asc_unique : ∀ {l m : List Int}, AscI l → AscI m → (∀ z, z ∈ l ↔ z ∈ m) → l = m
  | [], [], _, _, _ => rfl
  | [], z :: m, _, _, h => by have := (h z).2 (by simp); simp at this
  | z :: l, [], _, _, h => by have := (h z).1 (by simp); simp at this
  | a :: l, b :: m, h1, h2, h => by
    have ha := List.pairwise_cons.1 h1
    have hb := List.pairwise_cons.1 h2
    have e : a = b := by
      have h3 := (h a).1 (by simp)
      have h4 := (h b).2 (by simp)
      rcases List.mem_cons.1 h3 with q | q
      · exact q
      · rcases List.mem_cons.1 h4 with r | r
        · exact r.symm
        · have := hb.1 a q
          have := ha.1 b r
          omega
    subst e
    congr 1
    refine asc_unique ha.2 hb.2 fun z => ?_
    constructor
    · intro hz
      have h3 := (h z).1 (by simp [hz])
      rcases List.mem_cons.1 h3 with q | q
      · have := ha.1 z hz; omega
      · exact q
    · intro hz
      have h3 := (h z).2 (by simp [hz])
      rcases List.mem_cons.1 h3 with q | q
      · have := hb.1 z hz; omega
      · exact q
/-- Where n belongs. -/
def atI (l : List Int) (n : Int) : Nat := (l.takeWhile fun z => decide (z < n)).length
def addI (l : List Int) (n : Int) : List Int := l.take (atI l n) ++ n :: l.drop (atI l n)
theorem atI_cons (z : Int) (l : List Int) (n : Int) : atI (z :: l) n = if z < n then atI l n + 1 else 0 := by
  unfold atI
  by_cases h : z < n <;> simp [h]
theorem addI_cons (z : Int) (l : List Int) (n : Int) : addI (z :: l) n = if z < n then z :: addI l n else n :: z :: l := by
  unfold addI
  rw [atI_cons]
  split <;> simp
theorem mem_addI {l : List Int} {n z : Int} : z ∈ addI l n ↔ z = n ∨ z ∈ l := by
  induction l with
  | nil => simp [addI, atI]
  | cons y l ih =>
    rw [addI_cons]
    split
    · simp only [List.mem_cons, ih]
      constructor
      · rintro (h | h | h)
        · exact .inr (.inl h)
        · exact .inl h
        · exact .inr (.inr h)
      · rintro (h | h | h)
        · exact .inr (.inl h)
        · exact .inl h
        · exact .inr (.inr h)
    · simp
theorem asc_addI {l : List Int} {n : Int} (h : AscI l) (hn : n ∉ l) : AscI (addI l n) := by
  induction l with
  | nil => simp [addI, atI, AscI]
  | cons y l ih =>
    have hy := List.pairwise_cons.1 h
    rw [addI_cons]
    split
    · rename_i hlt
      refine List.pairwise_cons.2 ⟨fun z hz => ?_, ih hy.2 (fun q => hn (by simp [q]))⟩
      rcases mem_addI.1 hz with rfl | hz
      · exact hlt
      · exact hy.1 z hz
    · rename_i hlt
      have hne : y ≠ n := fun q => hn (by simp [q])
      refine List.pairwise_cons.2 ⟨fun z hz => ?_, h⟩
      rcases List.mem_cons.1 hz with rfl | hz
      · omega
      · have := hy.1 z hz; omega
theorem addI_length (l : List Int) (n : Int) : (addI l n).length = l.length + 1 := by
  have : atI l n ≤ l.length := by unfold atI; exact (List.takeWhile_sublist _).length_le
  unfold addI
  simp only [List.length_append, List.length_take, List.length_cons, List.length_drop]
  omega
theorem asc_len : ∀ {l m : List Int}, AscI l → (∀ z ∈ l, z ∈ m) → l.length ≤ m.length
  | [], m, _, _ => by simp
  | z :: l, m, h, hs => by
    have hz := List.pairwise_cons.1 h
    have hm : z ∈ m := hs z (by simp)
    have ih := asc_len (m := m.erase z) hz.2 fun y hy => by
      have hne : y ≠ z := fun q => by have := hz.1 y hy; omega
      exact (List.mem_erase_of_ne hne).2 (hs y (by simp [hy]))
    have := List.length_erase_of_mem hm
    have := List.length_pos_of_mem hm
    simp only [List.length_cons]; omega
/-- What the objects of an id lead to, and whether there are any. -/
def leadM (id : Int) (os : List ObP) : List Int := os.flatMap fun o => if o.id = id then o.flds else []
def hitM (id : Int) (os : List ObP) : Bool := os.any fun o => decide (o.id = id)
def outM (id : Int) (out : List Int) (os : List ObP) : List Int := if hitM id os then addI out id else out
theorem leadM_take {id : Int} {objs : List ObP} {m : Nat} (h : m < objs.length) : leadM id (objs.take (m + 1)) = leadM id (objs.take m) ++ (if objs[m].id = id then objs[m].flds else []) := by
  unfold leadM
  rw [List.take_add_one, List.getElem?_eq_getElem h, List.flatMap_append]
  simp
theorem hitM_take {id : Int} {objs : List ObP} {m : Nat} (h : m < objs.length) : hitM id (objs.take (m + 1)) = (hitM id (objs.take m) || decide (objs[m].id = id)) := by
  unfold hitM
  rw [List.take_add_one, List.getElem?_eq_getElem h, List.any_append]
  simp
theorem hitM_iff {id : Int} {os : List ObP} : hitM id os = true ↔ ∃ o ∈ os, o.id = id := by simp [hitM]
theorem mem_leadM {id y : Int} {os : List ObP} : y ∈ leadM id os ↔ ∃ o ∈ os, o.id = id ∧ y ∈ o.flds := by
  unfold leadM
  simp only [List.mem_flatMap]
  constructor
  · rintro ⟨o, ho, hy⟩
    split at hy
    · exact ⟨o, ho, by assumption, hy⟩
    · simp at hy
  · rintro ⟨o, ho, e, hy⟩
    exact ⟨o, ho, by rw [if_pos e]; exact hy⟩
theorem outM_zero (id : Int) (out : List Int) (objs : List ObP) : outM id out (objs.take 0) = out := by simp [outM, hitM]
theorem leadM_zero (id : Int) (objs : List ObP) : leadM id (objs.take 0) = [] := by simp [leadM]
theorem outM_skip {id : Int} {out : List Int} {objs : List ObP} {m : Nat} (h : m < objs.length) (e : ¬ objs[m].id = id) : outM id out (objs.take (m + 1)) = outM id out (objs.take m) := by
  unfold outM
  rw [hitM_take h, decide_eq_false e, Bool.or_false]
theorem leadM_skip {id : Int} {objs : List ObP} {m : Nat} (h : m < objs.length) (e : ¬ objs[m].id = id) : leadM id (objs.take (m + 1)) = leadM id (objs.take m) := by
  rw [leadM_take h, if_neg e, List.append_nil]
theorem outM_hit {id : Int} {out : List Int} {objs : List ObP} {m : Nat} (h : m < objs.length) (e : objs[m].id = id) : outM id out (objs.take (m + 1)) = addI out id := by
  unfold outM
  rw [hitM_take h, decide_eq_true e, Bool.or_true, if_pos rfl]
theorem outM_mem {id : Int} {out : List Int} {os : List ObP} (hn : id ∉ out) : id ∈ outM id out os ↔ hitM id os = true := by
  unfold outM
  split
  · rename_i h
    simp [h, mem_addI]
  · rename_i h
    simp [h, hn]
/-- Where the search stands. -/
structure MrS (objs : List ObP) (st todo out : List Int) : Prop where
  asc : AscI out
  live : ∀ z ∈ out, LvP objs st z
  todoL : ∀ z ∈ todo, hasP objs z → LvP objs st z
  cl : ∀ z ∈ out, ∀ o ∈ objs, o.id = z → ∀ y ∈ o.flds, hasP objs y → y ∈ out ∨ y ∈ todo
  rt : ∀ z ∈ st, hasP objs z → z ∈ out ∨ z ∈ todo
theorem MrS.start (objs : List ObP) (st : List Int) : MrS objs st st [] :=
  ⟨List.Pairwise.nil, fun z hz => by simp at hz, fun z hz hh => .root hz hh, fun z hz => by simp at hz, fun z hz _ => .inr hz⟩
theorem MrS.skip {objs : List ObP} {st todo out : List Int} {z : Int} (h : MrS objs st (z :: todo) out) (hz : z = 0 ∨ z ∈ out) : MrS objs st todo out := by
  have key : ∀ y, hasP objs y → y ∈ out ∨ y ∈ z :: todo → y ∈ out ∨ y ∈ todo := fun y hy q => by
    rcases q with q | q
    · exact .inl q
    · rcases List.mem_cons.1 q with rfl | q
      · rcases hz with e | e
        · exact absurd e hy.1
        · exact .inl e
      · exact .inr q
  exact ⟨h.asc, h.live, fun y hy => h.todoL y (by simp [hy]), fun y hy o ho e u hu hh => key u hh (h.cl y hy o ho e u hu hh), fun y hy hh => key y hh (h.rt y hy hh)⟩
theorem MrS.take {objs : List ObP} {st todo out : List Int} {z : Int} (h : MrS objs st (z :: todo) out) (h0 : z ≠ 0) (hn : z ∉ out) : MrS objs st (todo ++ leadM z objs) (outM z out objs) := by
  have hhas : hitM z objs = true → hasP objs z := fun q => by
    obtain ⟨o, ho, e⟩ := hitM_iff.1 q
    exact ⟨h0, o, ho, e⟩
  have hof : hasP objs z → hitM z objs = true := fun q => by
    obtain ⟨_, o, ho, e⟩ := q
    exact hitM_iff.2 ⟨o, ho, e⟩
  have hsub : ∀ y ∈ out, y ∈ outM z out objs := fun y hy => by
    unfold outM
    split
    · exact mem_addI.2 (.inr hy)
    · exact hy
  have hmem : ∀ y ∈ outM z out objs, y ∈ out ∨ (y = z ∧ hitM z objs = true) := fun y hy => by
    unfold outM at hy
    split at hy
    · rename_i q
      rcases mem_addI.1 hy with e | e
      · exact .inr ⟨e, q⟩
      · exact .inl e
    · exact .inl hy
  have hlz : hitM z objs = true → LvP objs st z := fun q => h.todoL z (by simp) (hhas q)
  have key : ∀ y, hasP objs y → y ∈ out ∨ y ∈ z :: todo → y ∈ outM z out objs ∨ y ∈ todo ++ leadM z objs := fun y hy q => by
    rcases q with q | q
    · exact .inl (hsub y q)
    · rcases List.mem_cons.1 q with rfl | q
      · exact .inl ((outM_mem hn).2 (hof hy))
      · exact .inr (List.mem_append_left _ q)
  refine ⟨?_, fun y hy => ?_, fun y hy hh => ?_, fun y hy o ho e u hu hh => ?_, fun y hy hh => key y hh (h.rt y hy hh)⟩
  · unfold outM
    split
    · exact asc_addI h.asc hn
    · exact h.asc
  · rcases hmem y hy with q | ⟨rfl, q⟩
    · exact h.live y q
    · exact hlz q
  · rcases List.mem_append.1 hy with q | q
    · exact h.todoL y (by simp [q]) hh
    · obtain ⟨o, ho, e, hu⟩ := mem_leadM.1 q
      refine .step (o := o) ?_ ho hu hh
      rw [e]
      exact hlz (hitM_iff.2 ⟨o, ho, e⟩)
  · rcases hmem y hy with q | ⟨rfl, q⟩
    · exact key u hh (h.cl y q o ho e u hu hh)
    · exact .inr (List.mem_append_right _ (mem_leadM.2 ⟨o, ho, e, hu⟩))
theorem MrS.fin {objs : List ObP} {st out : List Int} (h : MrS objs st [] out) : ∀ z, z ∈ out ↔ LvP objs st z := fun z => ⟨h.live z, fun hl => by
  induction hl with
  | root h1 h2 => simpa using h.rt _ h1 h2
  | @step id o hp ho hid hh ih => simpa using h.cl _ ih o ho rfl id hid hh⟩
theorem MrS.outlen {objs : List ObP} {st todo out : List Int} (h : MrS objs st todo out) : out.length ≤ objs.length := by
  have := asc_len (m := objs.map ObP.id) h.asc fun z hz => by
    obtain ⟨_, o, ho, e⟩ := (h.live z hz).has
    rw [← e]
    exact List.mem_map_of_mem (f := ObP.id) ho
  simpa using this
/-- What the search may still do. -/
def wtM (out : List Int) : List ObP → Nat
  | [] => 0
  | o :: objs => (if o.id ∈ out then 0 else o.flds.length) + wtM out objs
theorem wtM_add (out : List Int) (z : Int) (hn : z ∉ out) : ∀ objs : List ObP, wtM (addI out z) objs + (leadM z objs).length = wtM out objs
  | [] => by simp [wtM, leadM]
  | o :: objs => by
    have ih := wtM_add out z hn objs
    have e : leadM z (o :: objs) = (if o.id = z then o.flds else []) ++ leadM z objs := by simp [leadM]
    rw [e, List.length_append]
    simp only [wtM, mem_addI]
    by_cases h1 : o.id = z
    · have h2 : ¬ o.id ∈ out := by rw [h1]; exact hn
      simp only [h1, true_or, if_true, hn, if_false]
      omega
    · by_cases h2 : o.id ∈ out
      · simp only [h1, h2, or_true, if_true, if_false, List.length_nil]
        omega
      · simp only [h1, h2, or_self, if_false, List.length_nil]
        omega
theorem wtM_take (out : List Int) (z : Int) (hn : z ∉ out) (objs : List ObP) : wtM (outM z out objs) objs + (leadM z objs).length = wtM out objs := by
  unfold outM
  split
  · exact wtM_add out z hn objs
  · rename_i h
    have : leadM z objs = [] := List.eq_nil_iff_forall_not_mem.2 fun y hy => by
      obtain ⟨o, ho, e, _⟩ := mem_leadM.1 hy
      exact h (hitM_iff.2 ⟨o, ho, e⟩)
    rw [this]
    simp
theorem wtM_le : ∀ (out : List Int) (objs : List ObP), (∀ o ∈ objs, o.small) → wtM out objs ≤ objs.length * 1048576
  | out, [], _ => by simp [wtM]
  | out, o :: objs, h => by
    have h1 := wtM_le out objs fun o ho => h o (by simp [ho])
    have h2 : o.flds.length ≤ 1048576 := h o (by simp)
    simp only [wtM, List.length_cons]
    split <;> omega
theorem leadM_take_le (id : Int) (objs : List ObP) (m : Nat) : (leadM id (objs.take m)).length ≤ (leadM id objs).length := by
  have e : leadM id objs = leadM id (objs.take m) ++ leadM id (objs.drop m) := by
    unfold leadM
    rw [← List.flatMap_append, List.take_append_drop]
  rw [e, List.length_append]
  omega
end Go.Proofs.Ytchcdlelaklnnaa

/- The lists of the specification: is an Id there, and set in its place. -/
namespace Go.Proofs.Ytchcdlelaklnnaa
set_option linter.unusedVariables false
open Go.ChangeShapes Go.WideShapes Go.ChangeAt Go.RowKit
def OwnInK (lo hi : Nat) (w : World) (e size : Nat) (v : Value) (n : Nat) (xs : List Value) : Prop := w.ownsRow lo e size v n xs ∧ ∀ g, v.ownBlock = some g → g < hi
theorem OwnInK.below {lo hi : Nat} {w w' : World} {e size : Nat} {v : Value} {n : Nat} {xs : List Value} (h : OwnInK lo hi w e size v n xs) (hb : Below w.heap.size w w') (hh : hi ≤ w.heap.size) : OwnInK lo hi w' e size v n xs :=
  ⟨own_below h.1 hb fun g hg => by have := h.2 g hg; omega, h.2⟩
theorem OwnInK.made {w w' : World} {e size : Nat} {v : Value} {n : Nat} {xs : List Value} (h : w'.ownsRow w.heap.size e size v n xs) : OwnInK w.heap.size w'.heap.size w' e size v n xs := ⟨h, fun g hg => (World.ownsRow.lt h g hg).2⟩
theorem src_pre {w : World} {B b n c : Nat} {rs : List Int} (h : OutAt B w (.slice (some ⟨b, 0, none⟩) n c) rs) {m : Nat} (hm : m ≤ rs.length) (cc : Nat) : SrcAt w 1 (.slice (some ⟨b, 0, none⟩) m cc) m (intsV (rs.take m)) := by
  refine .inr ⟨⟨b, 0, none⟩, cc, rfl, by rw [intsV_length]; simp; omega, fun j u hj => World.ownsRow.cells h rfl j u ?_⟩
  have e : intsV rs = intsV (rs.take m) ++ intsV (rs.drop m) := by rw [← intsV_append, List.take_append_drop]
  rw [e, List.getElem?_append_left (List.getElem?_eq_some_iff.1 hj).1]; exact hj
theorem src_post {w : World} {B b n c : Nat} {rs : List Int} (h : OutAt B w (.slice (some ⟨b, 0, none⟩) n c) rs) {m o : Nat} (hm : m ≤ rs.length) (ho : m < rs.length → o = m) (cc : Nat) : SrcAt w 1 (.slice (some ⟨b, o, none⟩) (rs.length - m) cc) (rs.length - m) (intsV (rs.drop m)) := by
  refine .inr ⟨⟨b, o, none⟩, cc, rfl, by rw [intsV_length]; simp, fun j u hj => ?_⟩
  have hjl : j < (intsV (rs.drop m)).length := (List.getElem?_eq_some_iff.1 hj).1
  have hml : m < rs.length := by rw [intsV_length] at hjl; simp at hjl; omega
  have e0 := ho hml
  subst e0
  have e : intsV rs = intsV (rs.take o) ++ intsV (rs.drop o) := by rw [← intsV_append, List.take_append_drop]
  have hl : (intsV (rs.take o)).length = o := by rw [intsV_length]; simp; omega
  have := World.ownsRow.cells h rfl (o + j) u (by rw [e, List.getElem?_append_right (by omega), hl, show o + j - o = j by omega]; exact hj)
  rw [Addr.add_lit] at this ⊢
  simpa [Nat.add_assoc] using this
theorem src_own {w : World} {B : Nat} {v : Value} {n : Nat} {xs : List Value} (h : w.ownsRow B 2 1 v n xs) (hn : 0 < n) : SrcAt w 1 v n xs := by
  obtain ⟨g, c, rfl⟩ := own_some h hn
  exact .inr ⟨⟨g, 0, none⟩, c, rfl, h.1, fun j u hj => World.ownsRow.cells h rfl j u hj⟩
/-- The values of the region that sets a race in its place. -/
def insVal (lv pre post : Value) (r : Int) (rs : List Int) (m : Nat) : Nat → Value → Nat → Nat → World → Prop
  | 0, v, lo, hi, w => v = .slice (some ⟨lo, 0, none⟩) 0 0 ∧ OwnInK lo hi w 2 1 v 0 []
  | 1, v, _, _, _ => v = lv
  | 2, v, _, _, _ => v = .int .i64 m
  | 3, v, _, _, _ => v = pre
  | 4, v, lo, hi, w => OwnInK lo hi w 2 1 v m (intsV (rs.take m))
  | 5, v, _, _, _ => v = .int .i64 r
  | 6, v, lo, hi, w => OwnInK lo hi w 2 1 v 1 (intsV [r])
  | 8, v, _, _, _ => v = lv
  | 9, v, _, _, _ => v = .int .i64 m
  | _, v, _, _, _ => v = post
theorem insVal_below (lv pre post : Value) (r : Int) (rs : List Int) (m : Nat) : ∀ i v lo hi (w w' : World), Below w.heap.size w w' → hi ≤ w.heap.size → insVal lv pre post r rs m i v lo hi w → insVal lv pre post r rs m i v lo hi w' := by
  intro i v lo hi w w' hb hh h
  match i, h with
  | 0, h => exact ⟨h.1, OwnInK.below h.2 hb hh⟩
  | 1, h => exact h
  | 2, h => exact h
  | 3, h => exact h
  | 4, h => exact OwnInK.below h hb hh
  | 5, h => exact h
  | 6, h => exact OwnInK.below h hb hh
  | 7, h => exact h
  | 8, h => exact h
  | 9, h => exact h
  | i + 10, h => exact h
def insPV (lv post : Value) (m : Nat) : Nat → Value → Prop
  | 8, v => v = lv
  | 9, v => v = .int .i64 m
  | 10, v => v = post
  | _, _ => True
def insPure : Nat → Bool
  | 8 => true
  | 9 => true
  | 10 => true
  | _ => false
theorem insPure_cases {i : Nat} (h : insPure i = true) : i = 8 ∨ i = 9 ∨ i = 10 := by
  unfold insPure at h
  split at h <;> simp_all
def insSrc : Nat → Option Nat
  | 4 => some 0
  | _ => none
theorem insSrc_cases {i j : Nat} (h : insSrc i = some j) : i = 4 ∧ j = 0 := by
  unfold insSrc at h
  split at h <;> simp_all
def insRR (B : Nat) (w0 : World) (r : Int) (rs : List Int) (m : Nat) : Nat → (Nat → Value) → World → Prop
  | 0, vs, W => Below B w0 W ∧ W.ownsRow B 2 1 (vs 7) (m + 1) (intsV (rs.take m ++ [r]))
  | _, vs, W => Below B w0 W ∧ W.ownsRow B 2 1 (vs 11) (m + 1 + (rs.length - m)) (intsV (rs.take m ++ [r] ++ rs.drop m))
theorem insRR_loc (B : Nat) (w0 : World) (r : Int) (rs : List Int) (m : Nat) : ∀ k vs i v w, insPure i = true → insRR B w0 r rs m k vs w → insRR B w0 r rs m k (upd vs i v) w := by
  intro k vs i v w hp h
  have hi := insPure_cases hp
  have e7 : upd vs i v 7 = vs 7 := upd_other _ _ (by omega)
  have e11 : upd vs i v 11 = vs 11 := upd_other _ _ (by omega)
  match k, h with
  | 0, h => exact ⟨h.1, by rw [e7]; exact h.2⟩
  | _ + 1, h => exact ⟨h.1, by rw [e11]; exact h.2⟩


set_option maxRecDepth 1000000 in
set_option maxHeartbeats 1000000 in
theorem has_calls (v : Value) (zs : List Int) (n : Int) (w : World) (B : Nat) (h : OutAt B w v zs) (hl : zs.length ≤ 1048576) : Calls Try.prog 24 #[v, .int .i64 n] w fun e w' => e = .returned (.bool (decide (n ∈ zs))) ∧ w' = w := by
  obtain ⟨a, c, rfl⟩ := own_form h
  have hH : Hid (OutAt B w (.slice a zs.length c) zs) := h
  have hR0 : Hid (decide (n ∈ zs) = decide (n ∈ zs.drop 0)) := rfl
  generalize decide (n ∈ zs) = R at hR0 ⊢
  clear h
  go_enter Try.func24, Try.ntmps24
  go_wp2
  go_loopw [5] (fun i wr => ∃ m : Nat, m ≤ zs.length ∧ i = .int .i64 m ∧ w = wr ∧ Hid (R = decide (n ∈ zs.drop m))) (fun i _ => zs.length - (intOf i).toNat)
  case atStart => exact ⟨0, Nat.zero_le _, rfl, rfl, hR0⟩
  case round =>
    obtain ⟨m, hm, rfl, hw, hR⟩ := hrel
    subst hw
    rename World => wr
    clear hR0
    by_cases hlt : m < zs.length
    · have hlt' : (m : Int) < (zs.length : Int) := by omega
      have hm0 : (0 : Int) ≤ m := by omega
      obtain ⟨g, c', e⟩ := own_some hH.out (by omega)
      injection e with e1 e2 e3
      subst e1
      have q : wr.cell? ⟨g, m, none⟩ = some (.int .i64 zs[m]) := hH.out.cell hlt
      have hR2 : Hid (R = decide (n ∈ zs[m] :: zs.drop (m + 1))) := by show _ = _; rw [hR.out, List.drop_eq_getElem_cons hlt]
      generalize zs[m] = z at q hR2
      clear hR e2 e3
      by_cases hz : z = n
      · subst hz
        have hzz : (z == z) = true := by simp
        have hR3 : Hid (R = true) := by show _ = _; rw [hR2.out]; simp
        clear hR2
        go_wp2
        go_ret
        exact ⟨by rw [hR3.out]; rfl, rfl⟩
      · have hzz : (z == n) = false := by simpa using hz
        have hR3 : Hid (R = decide (n ∈ zs.drop (m + 1))) := by show _ = _; rw [hR2.out]; simp [Ne.symm hz]
        clear hR2
        go_wp2
        go_roundw
        case rel => exact ⟨m + 1, by omega, by go_num, by first | trivial | rfl, hR3⟩
        case measure => simp [intOf]; omega
    · have hR3 : Hid (R = false) := by show _ = _; rw [hR.out, List.drop_eq_nil_of_le (by omega)]; simp
      clear hR
      go_wp2
      go_ret
      exact ⟨by rw [hR3.out]; rfl, by first | trivial | rfl⟩

set_option maxRecDepth 1000000 in
set_option maxHeartbeats 4000000 in
theorem add_some (b lc : Nat) (rs : List Int) (r : Int) (V2 : World) (B : Nat) (h : OutAt B V2 (.slice (some ⟨b, 0, none⟩) rs.length lc) rs) (hn : rs.length ≤ 1048576) :
    Calls Try.prog 25 #[.slice (some ⟨b, 0, none⟩) rs.length lc, .int .i64 r] V2 fun e w' => (∃ g c, e = .returned (.slice (some ⟨g, 0, none⟩) (rs.length + 1) c) ∧ OutAt V2.heap.size w' (.slice (some ⟨g, 0, none⟩) (rs.length + 1) c) (addI rs r)) ∧ Below V2.heap.size V2 w' := by
  obtain ⟨i9, hi9, hz9, hs9, hb9⟩ := info_parts (show (Try.prog.info? 2).map (fun i => (i.zero, i.size, i.bytes)) = some (some (.int .i64 0), 1, 8) by kernel_rfl)
  have hRA2 : Hid (∀ W, Below V2.heap.size V2 W → OutAt B W (.slice (some ⟨b, 0, none⟩) rs.length lc) rs) := fun W hW => h.below hW
  have hcap : rs.length ≤ lc := own_cap h
  have hp0 : Hid (0 + atI (rs.drop 0) r = atI rs r) := by show _ = _; simp
  clear h
  go_enter Try.func25, Try.ntmps25
  go_wp2
  go_loopw [5] (fun i wr => ∃ m : Nat, m ≤ rs.length ∧ i = .int .i64 m ∧ V2 = wr ∧ Hid (m + atI (rs.drop m) r = atI rs r)) (fun i _ => rs.length - (intOf i).toNat)
  case atStart => exact ⟨0, Nat.zero_le _, rfl, rfl, hp0⟩
  case round =>
    obtain ⟨m, hm, rfl, hw, hp⟩ := hrel
    subst hw
    rename World => V2
    clear hp0
    have hm0 : (0 : Int) ≤ m := by omega
    have hmc : (m : Int) ≤ lc := by omega
    by_cases hlt : m < rs.length
    · have hlt' : (m : Int) < (rs.length : Int) := by omega
      have q : V2.cell? ⟨b, m, none⟩ = some (.int .i64 rs[m]) := (hRA2.out V2 (Below.refl _ _)).cell hlt
      have hp1 : Hid (m + (if rs[m] < r then atI (rs.drop (m + 1)) r + 1 else 0) = atI rs r) := by show _ = _; rw [← atI_cons, ← List.drop_eq_getElem_cons hlt]; exact hp.out
      generalize rs[m] = z at q hp1
      clear hp
      by_cases hz : z < r
      · have hp2 : Hid (m + 1 + atI (rs.drop (m + 1)) r = atI rs r) := by
          have := hp1.out
          rw [if_pos hz] at this
          show _ = _
          omega
        clear hp1
        go_wp2
        go_roundw
        case rel => exact ⟨m + 1, by omega, by go_num, by first | trivial | rfl, hp2⟩
        case measure => simp [intOf]; omega
      · have hins : Hid (addI rs r = rs.take m ++ r :: rs.drop m) := by
          have := hp1.out
          rw [if_neg hz] at this
          show _ = _
          unfold addI
          rw [← this]
          rfl
        have hmc3 : (m : Int) < lc := by omega
        clear hp1
        go_upto_region 4 with fail
        have hsp : Hid (∀ W, Below V2.heap.size V2 W → SrcAt W 1 (.slice (some ⟨b, 0, none⟩) m lc) m (intsV (rs.take m))) := fun W hW => src_pre (hRA2.out W hW) (by omega) _
        have hsq : Hid (∀ W, Below V2.heap.size V2 W → SrcAt W 1 (.slice (some ⟨b, m, none⟩) (rs.length - m) (lc - m)) (rs.length - m) (intsV (rs.drop m))) := fun W hW => src_post (hRA2.out W hW) (by omega) (fun _ => rfl) _
        refine wp_region_mixed (by kernel_rfl) (fun vs => { tmps := #[Value.slice (some { block := b, off := 0 }) rs.length lc, Value.int IntKind.i64 r, undef, undef, vs 12, Value.int IntKind.i64 ↑m, Value.int IntKind.i64 ↑m, Value.slice (some { block := b, off := 0 }) rs.length lc, Value.int IntKind.i64 ↑rs.length, Value.bool true, Value.bool true, Value.slice (some { block := b, off := 0 }) rs.length lc, Value.int IntKind.i64 ↑m, Value.pointer (some { block := b, off := m }), Value.int IntKind.i64 z, Value.int IntKind.i64 r, Value.bool false, Value.bool false, u18, u19, vs 0, vs 1, vs 2, vs 3, vs 4, vs 5, vs 6, vs 7, vs 8, vs 9, vs 10, vs 11], defers := [] }) (insVal (.slice (some ⟨b, 0, none⟩) rs.length lc) (.slice (some ⟨b, 0, none⟩) m lc) (.slice (some ⟨b, m, none⟩) (rs.length - m) (lc - m)) r rs m) insSrc (fun i i' j h h' => by have := insSrc_cases h; have := insSrc_cases h'; omega) (fun i j h => by have := insSrc_cases h; rw [this.2]; rfl) 7 [11] insPure (insPV (.slice (some ⟨b, 0, none⟩) rs.length lc) (.slice (some ⟨b, m, none⟩) (rs.length - m) (lc - m)) m) (insRR V2.heap.size V2 r rs m) (fun i => if i = 12 then Value.slice none 0 0 else undef) rfl (by kernel_rfl) (insVal_below _ _ _ r rs m) (fun i v lo hi w hp h => by rcases insPure_cases hp with rfl | rfl | rfl <;> exact h) (insRR_loc _ _ r rs m) (allAt_all ⟨?_, ?_, ?_, ?_, ?_, ?_, ?_, ?_, ?_, ?_, ?_, ?_, ?_, trivial⟩) (allAt_all ⟨?_, ?_, ?_, ?_, ?_, ?_, ?_, ?_, ?_, ?_, ?_, ?_, ?_, trivial⟩) ?_ ?_ ?_
        case refine_1 =>
          intro _ _ vs lo hi W hB hv
          go_wp2
          exact RegPost.own _ rfl (below_1 _ _) ⟨rfl, OwnInK.made (World.ownsRow_made W #[] 0 (Nat.le_refl _) (by unfold maxLen; omega) rfl)⟩
        case refine_2 =>
          intro _ _ vs lo hi W hB hv
          go_wp2
          exact RegPost.own _ rfl (Below.refl _ _) rfl
        case refine_3 =>
          intro _ _ vs lo hi W hB hv
          go_wp2
          exact RegPost.own _ rfl (Below.refl _ _) rfl
        case refine_4 =>
          intro _ _ vs lo hi W hB hv
          have e1 : vs 1 = .slice (some ⟨b, 0, none⟩) rs.length lc := (hv ⟨1, .data⟩ (by simp) rfl).1
          have e2 : vs 2 = .int .i64 m := (hv ⟨2, .data⟩ (by simp) rfl).1
          simp only [e1, e2]
          go_wp2
          exact RegPost.own (.slice (some ⟨b, 0, none⟩) m lc) (by rw [← e1, ← e2]; rfl) (Below.refl _ _) rfl
        case refine_5 =>
          intro _ _ vs lo hi W hB hv
          obtain ⟨⟨q0, q1⟩, _, _, _⟩ := hv ⟨0, .data⟩ (by simp) rfl
          have q0 : vs 0 = .slice (some ⟨lo 0, 0, none⟩) 0 0 := q0
          have q1 : OwnInK (lo 0) (hi 0) W 2 1 (vs 0) 0 [] := q1
          have e3 : vs 3 = .slice (some ⟨b, 0, none⟩) m lc := (hv ⟨3, .data⟩ (by simp) rfl).1
          refine wpList_append_src0 rfl (.tmp 20) (.tmp 23) 32 rfl 2 i9 (.int .i64 0) 1 8 Try.underlying32 hi9 hz9 hs9 hb9 rfl (by omega) (lo 0) q0 (vs 3) m (intsV (rs.take m)) rfl (by rw [e3]; exact hsp.out W hB) (intsV_one _) (by unfold maxLen; omega) (by omega) (fun m0 n0 => ?_) (fun v1 w1 hown hgrow => ?_)
          · refine wpList_nil ?_
            refine RegPost.take (.slice (some ⟨lo 0, 0, none⟩) 0 0) ⟨0, .data⟩ rfl (by simp) rfl rfl (Below.refl _ _) ?_
            show OwnInK (lo 0) (hi 0) W 2 1 _ m (intsV (rs.take m))
            rw [n0, m0, ← q0]
            exact q1
          · refine wpList_nil ?_
            exact RegPost.own v1 rfl ((Below.refl _ _).grown hgrow (Nat.le_refl _) (fun j hj => by cases hj)) (OwnInK.made hown)
        case refine_6 =>
          intro _ _ vs lo hi W hB hv
          go_wp2
          exact RegPost.own (.int .i64 r) rfl (Below.refl _ _) rfl
        case refine_7 =>
          intro _ _ vs lo hi W hB hv
          have e5 : vs 5 = .int .i64 r := (hv ⟨5, .data⟩ (by simp) rfl).1
          simp only [e5]
          go_wp2
          exact RegPost.own (.slice (some ⟨W.heap.size, 0, none⟩) 1 1) (by rw [← e5]; rfl) (below_1 _ _) (OwnInK.made (World.ownsRow_lit W #[.int .i64 r] 1 (Nat.le_refl _) (by unfold maxLen; omega) rfl))
        case refine_8 => exact fun h => absurd (by decide) h
        case refine_9 =>
          intro _ _ vs lo hi W hB hv
          go_wp2
          exact RegPost.own _ rfl (Below.refl _ _) rfl
        case refine_10 =>
          intro _ _ vs lo hi W hB hv
          go_wp2
          exact RegPost.own _ rfl (Below.refl _ _) rfl
        case refine_11 =>
          intro _ _ vs lo hi W hB hv
          have e8 : vs 8 = .slice (some ⟨b, 0, none⟩) rs.length lc := (hv ⟨8, .data⟩ (by simp) rfl).1
          have e9 : vs 9 = .int .i64 m := (hv ⟨9, .data⟩ (by simp) rfl).1
          simp only [e8, e9]
          go_wp2
          exact RegPost.own (.slice (some ⟨b, m, none⟩) (rs.length - m) (lc - m)) (by rw [← e8, ← e9]; rfl) (Below.refl _ _) rfl
        case refine_12 => exact fun h => absurd (by decide) h
        case refine_13 => exact fun _ h => absurd h (by simp)
        case refine_14 => exact fun h => absurd h (by decide)
        case refine_15 => exact fun h => absurd h (by decide)
        case refine_16 => exact fun h => absurd h (by decide)
        case refine_17 => exact fun h => absurd h (by decide)
        case refine_18 => exact fun h => absurd h (by decide)
        case refine_19 => exact fun h => absurd h (by decide)
        case refine_20 => exact fun h => absurd h (by decide)
        case refine_21 => exact fun h => absurd h (by decide)
        case refine_22 =>
          intro _ _ q vs W hR hv
          go_wp2
          exact PurePost.mk' (.slice (some ⟨b, 0, none⟩) rs.length lc) rfl rfl
        case refine_23 =>
          intro _ _ q vs W hR hv
          go_wp2
          exact PurePost.mk' (.int .i64 m) rfl rfl
        case refine_24 =>
          intro _ _ q vs W hR hv
          have e8 : vs 8 = .slice (some ⟨b, 0, none⟩) rs.length lc := hv ⟨8, .data⟩ (by simp) rfl rfl
          have e9 : vs 9 = .int .i64 m := hv ⟨9, .data⟩ (by simp) rfl rfl
          simp only [e8, e9]
          go_wp2
          exact PurePost.mk' (.slice (some ⟨b, m, none⟩) (rs.length - m) (lc - m)) (by rw [← e8, ← e9]; rfl) rfl
        case refine_25 => exact fun h => absurd h (by decide)
        case refine_26 => exact fun h => absurd h (by decide)
        case refine_27 =>
          intro o ho vs lo hi W hB hv
          obtain rfl := Option.some.inj ho
          obtain ⟨h4, g4, _, _⟩ := hv ⟨4, .data⟩ (by simp) rfl
          obtain ⟨h6, g6, _, _⟩ := hv ⟨6, .data⟩ (by simp) rfl
          have h4 : W.ownsRow (lo 4) 2 1 (vs 4) m (intsV (rs.take m)) := h4.1
          have h6 : W.ownsRow (lo 6) 2 1 (vs 6) 1 (intsV [r]) := h6.1
          refine wpList_append_src rfl (.tmp 24) (.tmp 26) 32 rfl V2.heap.size 2 i9 (.int .i64 0) 1 8 Try.underlying32 hi9 hz9 hs9 hb9 rfl (by omega) (vs 4) m (intsV (rs.take m)) rfl (own_mono h4 g4) (vs 6) 1 (intsV [r]) rfl (src_own h6 (by omega)) (intsV_one _) (by unfold maxLen; omega) (by omega) hB.size ?_
          intro v' w' hown hgrow hat
          refine wpList_nil ?_
          refine ⟨v', rfl, hB.grown hgrow hB.size (fun j hj => (World.ownsRow.lt (own_mono h4 g4) j hj).1), ?_⟩
          rw [upd_same, intsV_append]
          exact hown
        case refine_28 =>
          intro q c o hq ho vs W hR hv
          match q, hq with
          | 0, hq =>
            obtain rfl : c = 11 := by simpa using hq.symm
            obtain rfl := Option.some.inj ho
            have e10 : vs 10 = .slice (some ⟨b, m, none⟩) (rs.length - m) (lc - m) := hv ⟨10, .data⟩ (by simp) rfl rfl
            obtain ⟨hB, hown7⟩ := hR
            refine wpList_append_src rfl (.tmp 27) (.tmp 30) 32 rfl V2.heap.size 2 i9 (.int .i64 0) 1 8 Try.underlying32 hi9 hz9 hs9 hb9 rfl (by omega) (vs 7) (m + 1) _ rfl hown7 (vs 10) (rs.length - m) (intsV (rs.drop m)) rfl (by rw [e10]; exact hsq.out W hB) (intsV_one _) (by unfold maxLen; omega) (by omega) hB.size ?_
            intro v' w' hown hgrow hat
            refine wpList_nil ?_
            refine ChainPost.mk' v' rfl ⟨hB.grown hgrow hB.size (fun j hj => (World.ownsRow.lt hown7 j hj).1), ?_⟩
            rw [upd_same, intsV_append]
            exact hown
          | q + 1, hq => simp at hq
        case refine_29 =>
          intro o ho vs W hR hv
          obtain rfl := Option.some.inj ho
          obtain ⟨hB, hown⟩ := hR
          have hfin : Hid (OutAt V2.heap.size W (vs 11) (addI rs r)) := by
            show W.ownsRow _ _ _ _ _ _
            rw [hins.out]
            have e : (rs.take m ++ [r] ++ rs.drop m).length = m + 1 + (rs.length - m) := by simp; omega
            rw [show (rs.take m ++ r :: rs.drop m) = rs.take m ++ [r] ++ rs.drop m by simp, e]
            exact hown
          have hfb : Hid (Below V2.heap.size V2 W) := hB
          clear hown hB
          obtain ⟨g, c, e11⟩ := own_some hfin.out (by rw [addI_length]; omega)
          rw [addI_length] at e11
          rw [e11] at hfin
          simp only [e11]
          go_wp2
          go_ret
          exact ⟨⟨g, c, rfl, hfin.out⟩, hfb.out⟩
    · have hge : ¬ ((m : Int) < (rs.length : Int)) := by omega
      have hins : Hid (addI rs r = rs.take m ++ r :: rs.drop m) := by
        have := hp.out
        rw [List.drop_eq_nil_of_le (by omega)] at this
        show _ = _
        unfold addI
        rw [← this]
        rfl
      clear hp
      by_cases hml : lc = m
      · subst lc
        go_upto_region 4 with fail
        have hsp : Hid (∀ W, Below V2.heap.size V2 W → SrcAt W 1 (.slice (some ⟨b, 0, none⟩) m m) m (intsV (rs.take m))) := fun W hW => src_pre (hRA2.out W hW) (by omega) _
        have hsq : Hid (∀ W, Below V2.heap.size V2 W → SrcAt W 1 (.slice (some ⟨b, 0, none⟩) 0 0) (rs.length - m) (intsV (rs.drop m))) := fun W hW => (by have := src_post (hRA2.out W hW) (m := m) (o := 0) (by omega) (fun q => absurd q (by omega)) 0; rwa [show rs.length - m = 0 by omega] at this ⊢)
        refine wp_region_mixed (by kernel_rfl) (fun vs => { tmps := #[Value.slice (some { block := b, off := 0 }) rs.length m, Value.int IntKind.i64 r, undef, undef, vs 12, Value.int IntKind.i64 ↑m, Value.int IntKind.i64 ↑m, Value.slice (some { block := b, off := 0 }) rs.length m, Value.int IntKind.i64 ↑rs.length, Value.bool false, Value.bool false, undef, undef, undef, undef, undef, undef, Value.bool false, u18, u19, vs 0, vs 1, vs 2, vs 3, vs 4, vs 5, vs 6, vs 7, vs 8, vs 9, vs 10, vs 11], defers := [] }) (insVal (.slice (some ⟨b, 0, none⟩) rs.length m) (.slice (some ⟨b, 0, none⟩) m m) (.slice (some ⟨b, 0, none⟩) 0 0) r rs m) insSrc (fun i i' j h h' => by have := insSrc_cases h; have := insSrc_cases h'; omega) (fun i j h => by have := insSrc_cases h; rw [this.2]; rfl) 7 [11] insPure (insPV (.slice (some ⟨b, 0, none⟩) rs.length m) (.slice (some ⟨b, 0, none⟩) 0 0) m) (insRR V2.heap.size V2 r rs m) (fun i => if i = 12 then Value.slice none 0 0 else undef) rfl (by kernel_rfl) (insVal_below _ _ _ r rs m) (fun i v lo hi w hp h => by rcases insPure_cases hp with rfl | rfl | rfl <;> exact h) (insRR_loc _ _ r rs m) (allAt_all ⟨?_, ?_, ?_, ?_, ?_, ?_, ?_, ?_, ?_, ?_, ?_, ?_, ?_, trivial⟩) (allAt_all ⟨?_, ?_, ?_, ?_, ?_, ?_, ?_, ?_, ?_, ?_, ?_, ?_, ?_, trivial⟩) ?_ ?_ ?_
        case refine_1 =>
          intro _ _ vs lo hi W hB hv
          go_wp2
          exact RegPost.own _ rfl (below_1 _ _) ⟨rfl, OwnInK.made (World.ownsRow_made W #[] 0 (Nat.le_refl _) (by unfold maxLen; omega) rfl)⟩
        case refine_2 =>
          intro _ _ vs lo hi W hB hv
          go_wp2
          exact RegPost.own _ rfl (Below.refl _ _) rfl
        case refine_3 =>
          intro _ _ vs lo hi W hB hv
          go_wp2
          exact RegPost.own _ rfl (Below.refl _ _) rfl
        case refine_4 =>
          intro _ _ vs lo hi W hB hv
          have e1 : vs 1 = .slice (some ⟨b, 0, none⟩) rs.length m := (hv ⟨1, .data⟩ (by simp) rfl).1
          have e2 : vs 2 = .int .i64 m := (hv ⟨2, .data⟩ (by simp) rfl).1
          simp only [e1, e2]
          go_wp2
          exact RegPost.own (.slice (some ⟨b, 0, none⟩) m m) (by rw [← e1, ← e2]; rfl) (Below.refl _ _) rfl
        case refine_5 =>
          intro _ _ vs lo hi W hB hv
          obtain ⟨⟨q0, q1⟩, _, _, _⟩ := hv ⟨0, .data⟩ (by simp) rfl
          have q0 : vs 0 = .slice (some ⟨lo 0, 0, none⟩) 0 0 := q0
          have q1 : OwnInK (lo 0) (hi 0) W 2 1 (vs 0) 0 [] := q1
          have e3 : vs 3 = .slice (some ⟨b, 0, none⟩) m m := (hv ⟨3, .data⟩ (by simp) rfl).1
          refine wpList_append_src0 rfl (.tmp 20) (.tmp 23) 32 rfl 2 i9 (.int .i64 0) 1 8 Try.underlying32 hi9 hz9 hs9 hb9 rfl (by omega) (lo 0) q0 (vs 3) m (intsV (rs.take m)) rfl (by rw [e3]; exact hsp.out W hB) (intsV_one _) (by unfold maxLen; omega) (by omega) (fun m0 n0 => ?_) (fun v1 w1 hown hgrow => ?_)
          · refine wpList_nil ?_
            refine RegPost.take (.slice (some ⟨lo 0, 0, none⟩) 0 0) ⟨0, .data⟩ rfl (by simp) rfl rfl (Below.refl _ _) ?_
            show OwnInK (lo 0) (hi 0) W 2 1 _ m (intsV (rs.take m))
            rw [n0, m0, ← q0]
            exact q1
          · refine wpList_nil ?_
            exact RegPost.own v1 rfl ((Below.refl _ _).grown hgrow (Nat.le_refl _) (fun j hj => by cases hj)) (OwnInK.made hown)
        case refine_6 =>
          intro _ _ vs lo hi W hB hv
          go_wp2
          exact RegPost.own (.int .i64 r) rfl (Below.refl _ _) rfl
        case refine_7 =>
          intro _ _ vs lo hi W hB hv
          have e5 : vs 5 = .int .i64 r := (hv ⟨5, .data⟩ (by simp) rfl).1
          simp only [e5]
          go_wp2
          exact RegPost.own (.slice (some ⟨W.heap.size, 0, none⟩) 1 1) (by rw [← e5]; rfl) (below_1 _ _) (OwnInK.made (World.ownsRow_lit W #[.int .i64 r] 1 (Nat.le_refl _) (by unfold maxLen; omega) rfl))
        case refine_8 => exact fun h => absurd (by decide) h
        case refine_9 =>
          intro _ _ vs lo hi W hB hv
          go_wp2
          exact RegPost.own _ rfl (Below.refl _ _) rfl
        case refine_10 =>
          intro _ _ vs lo hi W hB hv
          go_wp2
          exact RegPost.own _ rfl (Below.refl _ _) rfl
        case refine_11 =>
          intro _ _ vs lo hi W hB hv
          have e8 : vs 8 = .slice (some ⟨b, 0, none⟩) rs.length m := (hv ⟨8, .data⟩ (by simp) rfl).1
          have e9 : vs 9 = .int .i64 m := (hv ⟨9, .data⟩ (by simp) rfl).1
          simp only [e8, e9]
          go_wp2
          exact RegPost.own (.slice (some ⟨b, 0, none⟩) 0 0) (by rw [← e8, ← e9]; rfl) (Below.refl _ _) rfl
        case refine_12 => exact fun h => absurd (by decide) h
        case refine_13 => exact fun _ h => absurd h (by simp)
        case refine_14 => exact fun h => absurd h (by decide)
        case refine_15 => exact fun h => absurd h (by decide)
        case refine_16 => exact fun h => absurd h (by decide)
        case refine_17 => exact fun h => absurd h (by decide)
        case refine_18 => exact fun h => absurd h (by decide)
        case refine_19 => exact fun h => absurd h (by decide)
        case refine_20 => exact fun h => absurd h (by decide)
        case refine_21 => exact fun h => absurd h (by decide)
        case refine_22 =>
          intro _ _ q vs W hR hv
          go_wp2
          exact PurePost.mk' (.slice (some ⟨b, 0, none⟩) rs.length m) rfl rfl
        case refine_23 =>
          intro _ _ q vs W hR hv
          go_wp2
          exact PurePost.mk' (.int .i64 m) rfl rfl
        case refine_24 =>
          intro _ _ q vs W hR hv
          have e8 : vs 8 = .slice (some ⟨b, 0, none⟩) rs.length m := hv ⟨8, .data⟩ (by simp) rfl rfl
          have e9 : vs 9 = .int .i64 m := hv ⟨9, .data⟩ (by simp) rfl rfl
          simp only [e8, e9]
          go_wp2
          exact PurePost.mk' (.slice (some ⟨b, 0, none⟩) 0 0) (by rw [← e8, ← e9]; rfl) rfl
        case refine_25 => exact fun h => absurd h (by decide)
        case refine_26 => exact fun h => absurd h (by decide)
        case refine_27 =>
          intro o ho vs lo hi W hB hv
          obtain rfl := Option.some.inj ho
          obtain ⟨h4, g4, _, _⟩ := hv ⟨4, .data⟩ (by simp) rfl
          obtain ⟨h6, g6, _, _⟩ := hv ⟨6, .data⟩ (by simp) rfl
          have h4 : W.ownsRow (lo 4) 2 1 (vs 4) m (intsV (rs.take m)) := h4.1
          have h6 : W.ownsRow (lo 6) 2 1 (vs 6) 1 (intsV [r]) := h6.1
          refine wpList_append_src rfl (.tmp 24) (.tmp 26) 32 rfl V2.heap.size 2 i9 (.int .i64 0) 1 8 Try.underlying32 hi9 hz9 hs9 hb9 rfl (by omega) (vs 4) m (intsV (rs.take m)) rfl (own_mono h4 g4) (vs 6) 1 (intsV [r]) rfl (src_own h6 (by omega)) (intsV_one _) (by unfold maxLen; omega) (by omega) hB.size ?_
          intro v' w' hown hgrow hat
          refine wpList_nil ?_
          refine ⟨v', rfl, hB.grown hgrow hB.size (fun j hj => (World.ownsRow.lt (own_mono h4 g4) j hj).1), ?_⟩
          rw [upd_same, intsV_append]
          exact hown
        case refine_28 =>
          intro q c o hq ho vs W hR hv
          match q, hq with
          | 0, hq =>
            obtain rfl : c = 11 := by simpa using hq.symm
            obtain rfl := Option.some.inj ho
            have e10 : vs 10 = .slice (some ⟨b, 0, none⟩) 0 0 := hv ⟨10, .data⟩ (by simp) rfl rfl
            obtain ⟨hB, hown7⟩ := hR
            refine wpList_append_src rfl (.tmp 27) (.tmp 30) 32 rfl V2.heap.size 2 i9 (.int .i64 0) 1 8 Try.underlying32 hi9 hz9 hs9 hb9 rfl (by omega) (vs 7) (m + 1) _ rfl hown7 (vs 10) (rs.length - m) (intsV (rs.drop m)) rfl (by rw [e10]; exact hsq.out W hB) (intsV_one _) (by unfold maxLen; omega) (by omega) hB.size ?_
            intro v' w' hown hgrow hat
            refine wpList_nil ?_
            refine ChainPost.mk' v' rfl ⟨hB.grown hgrow hB.size (fun j hj => (World.ownsRow.lt hown7 j hj).1), ?_⟩
            rw [upd_same, intsV_append]
            exact hown
          | q + 1, hq => simp at hq
        case refine_29 =>
          intro o ho vs W hR hv
          obtain rfl := Option.some.inj ho
          obtain ⟨hB, hown⟩ := hR
          have hfin : Hid (OutAt V2.heap.size W (vs 11) (addI rs r)) := by
            show W.ownsRow _ _ _ _ _ _
            rw [hins.out]
            have e : (rs.take m ++ [r] ++ rs.drop m).length = m + 1 + (rs.length - m) := by simp; omega
            rw [show (rs.take m ++ r :: rs.drop m) = rs.take m ++ [r] ++ rs.drop m by simp, e]
            exact hown
          have hfb : Hid (Below V2.heap.size V2 W) := hB
          clear hown hB
          obtain ⟨g, c, e11⟩ := own_some hfin.out (by rw [addI_length]; omega)
          rw [addI_length] at e11
          rw [e11] at hfin
          simp only [e11]
          go_wp2
          go_ret
          exact ⟨⟨g, c, rfl, hfin.out⟩, hfb.out⟩
      · have hml2 : m < lc := by omega
        have hml3 : (m : Int) < lc := by omega
        go_upto_region 4 with fail
        have hsp : Hid (∀ W, Below V2.heap.size V2 W → SrcAt W 1 (.slice (some ⟨b, 0, none⟩) m lc) m (intsV (rs.take m))) := fun W hW => src_pre (hRA2.out W hW) (by omega) _
        have hsq : Hid (∀ W, Below V2.heap.size V2 W → SrcAt W 1 (.slice (some ⟨b, m, none⟩) (rs.length - m) (lc - m)) (rs.length - m) (intsV (rs.drop m))) := fun W hW => src_post (hRA2.out W hW) (by omega) (fun _ => rfl) _
        refine wp_region_mixed (by kernel_rfl) (fun vs => { tmps := #[Value.slice (some { block := b, off := 0 }) rs.length lc, Value.int IntKind.i64 r, undef, undef, vs 12, Value.int IntKind.i64 ↑m, Value.int IntKind.i64 ↑m, Value.slice (some { block := b, off := 0 }) rs.length lc, Value.int IntKind.i64 ↑rs.length, Value.bool false, Value.bool false, undef, undef, undef, undef, undef, undef, Value.bool false, u18, u19, vs 0, vs 1, vs 2, vs 3, vs 4, vs 5, vs 6, vs 7, vs 8, vs 9, vs 10, vs 11], defers := [] }) (insVal (.slice (some ⟨b, 0, none⟩) rs.length lc) (.slice (some ⟨b, 0, none⟩) m lc) (.slice (some ⟨b, m, none⟩) (rs.length - m) (lc - m)) r rs m) insSrc (fun i i' j h h' => by have := insSrc_cases h; have := insSrc_cases h'; omega) (fun i j h => by have := insSrc_cases h; rw [this.2]; rfl) 7 [11] insPure (insPV (.slice (some ⟨b, 0, none⟩) rs.length lc) (.slice (some ⟨b, m, none⟩) (rs.length - m) (lc - m)) m) (insRR V2.heap.size V2 r rs m) (fun i => if i = 12 then Value.slice none 0 0 else undef) rfl (by kernel_rfl) (insVal_below _ _ _ r rs m) (fun i v lo hi w hp h => by rcases insPure_cases hp with rfl | rfl | rfl <;> exact h) (insRR_loc _ _ r rs m) (allAt_all ⟨?_, ?_, ?_, ?_, ?_, ?_, ?_, ?_, ?_, ?_, ?_, ?_, ?_, trivial⟩) (allAt_all ⟨?_, ?_, ?_, ?_, ?_, ?_, ?_, ?_, ?_, ?_, ?_, ?_, ?_, trivial⟩) ?_ ?_ ?_
        case refine_1 =>
          intro _ _ vs lo hi W hB hv
          go_wp2
          exact RegPost.own _ rfl (below_1 _ _) ⟨rfl, OwnInK.made (World.ownsRow_made W #[] 0 (Nat.le_refl _) (by unfold maxLen; omega) rfl)⟩
        case refine_2 =>
          intro _ _ vs lo hi W hB hv
          go_wp2
          exact RegPost.own _ rfl (Below.refl _ _) rfl
        case refine_3 =>
          intro _ _ vs lo hi W hB hv
          go_wp2
          exact RegPost.own _ rfl (Below.refl _ _) rfl
        case refine_4 =>
          intro _ _ vs lo hi W hB hv
          have e1 : vs 1 = .slice (some ⟨b, 0, none⟩) rs.length lc := (hv ⟨1, .data⟩ (by simp) rfl).1
          have e2 : vs 2 = .int .i64 m := (hv ⟨2, .data⟩ (by simp) rfl).1
          simp only [e1, e2]
          go_wp2
          exact RegPost.own (.slice (some ⟨b, 0, none⟩) m lc) (by rw [← e1, ← e2]; rfl) (Below.refl _ _) rfl
        case refine_5 =>
          intro _ _ vs lo hi W hB hv
          obtain ⟨⟨q0, q1⟩, _, _, _⟩ := hv ⟨0, .data⟩ (by simp) rfl
          have q0 : vs 0 = .slice (some ⟨lo 0, 0, none⟩) 0 0 := q0
          have q1 : OwnInK (lo 0) (hi 0) W 2 1 (vs 0) 0 [] := q1
          have e3 : vs 3 = .slice (some ⟨b, 0, none⟩) m lc := (hv ⟨3, .data⟩ (by simp) rfl).1
          refine wpList_append_src0 rfl (.tmp 20) (.tmp 23) 32 rfl 2 i9 (.int .i64 0) 1 8 Try.underlying32 hi9 hz9 hs9 hb9 rfl (by omega) (lo 0) q0 (vs 3) m (intsV (rs.take m)) rfl (by rw [e3]; exact hsp.out W hB) (intsV_one _) (by unfold maxLen; omega) (by omega) (fun m0 n0 => ?_) (fun v1 w1 hown hgrow => ?_)
          · refine wpList_nil ?_
            refine RegPost.take (.slice (some ⟨lo 0, 0, none⟩) 0 0) ⟨0, .data⟩ rfl (by simp) rfl rfl (Below.refl _ _) ?_
            show OwnInK (lo 0) (hi 0) W 2 1 _ m (intsV (rs.take m))
            rw [n0, m0, ← q0]
            exact q1
          · refine wpList_nil ?_
            exact RegPost.own v1 rfl ((Below.refl _ _).grown hgrow (Nat.le_refl _) (fun j hj => by cases hj)) (OwnInK.made hown)
        case refine_6 =>
          intro _ _ vs lo hi W hB hv
          go_wp2
          exact RegPost.own (.int .i64 r) rfl (Below.refl _ _) rfl
        case refine_7 =>
          intro _ _ vs lo hi W hB hv
          have e5 : vs 5 = .int .i64 r := (hv ⟨5, .data⟩ (by simp) rfl).1
          simp only [e5]
          go_wp2
          exact RegPost.own (.slice (some ⟨W.heap.size, 0, none⟩) 1 1) (by rw [← e5]; rfl) (below_1 _ _) (OwnInK.made (World.ownsRow_lit W #[.int .i64 r] 1 (Nat.le_refl _) (by unfold maxLen; omega) rfl))
        case refine_8 => exact fun h => absurd (by decide) h
        case refine_9 =>
          intro _ _ vs lo hi W hB hv
          go_wp2
          exact RegPost.own _ rfl (Below.refl _ _) rfl
        case refine_10 =>
          intro _ _ vs lo hi W hB hv
          go_wp2
          exact RegPost.own _ rfl (Below.refl _ _) rfl
        case refine_11 =>
          intro _ _ vs lo hi W hB hv
          have e8 : vs 8 = .slice (some ⟨b, 0, none⟩) rs.length lc := (hv ⟨8, .data⟩ (by simp) rfl).1
          have e9 : vs 9 = .int .i64 m := (hv ⟨9, .data⟩ (by simp) rfl).1
          simp only [e8, e9]
          go_wp2
          exact RegPost.own (.slice (some ⟨b, m, none⟩) (rs.length - m) (lc - m)) (by rw [← e8, ← e9]; rfl) (Below.refl _ _) rfl
        case refine_12 => exact fun h => absurd (by decide) h
        case refine_13 => exact fun _ h => absurd h (by simp)
        case refine_14 => exact fun h => absurd h (by decide)
        case refine_15 => exact fun h => absurd h (by decide)
        case refine_16 => exact fun h => absurd h (by decide)
        case refine_17 => exact fun h => absurd h (by decide)
        case refine_18 => exact fun h => absurd h (by decide)
        case refine_19 => exact fun h => absurd h (by decide)
        case refine_20 => exact fun h => absurd h (by decide)
        case refine_21 => exact fun h => absurd h (by decide)
        case refine_22 =>
          intro _ _ q vs W hR hv
          go_wp2
          exact PurePost.mk' (.slice (some ⟨b, 0, none⟩) rs.length lc) rfl rfl
        case refine_23 =>
          intro _ _ q vs W hR hv
          go_wp2
          exact PurePost.mk' (.int .i64 m) rfl rfl
        case refine_24 =>
          intro _ _ q vs W hR hv
          have e8 : vs 8 = .slice (some ⟨b, 0, none⟩) rs.length lc := hv ⟨8, .data⟩ (by simp) rfl rfl
          have e9 : vs 9 = .int .i64 m := hv ⟨9, .data⟩ (by simp) rfl rfl
          simp only [e8, e9]
          go_wp2
          exact PurePost.mk' (.slice (some ⟨b, m, none⟩) (rs.length - m) (lc - m)) (by rw [← e8, ← e9]; rfl) rfl
        case refine_25 => exact fun h => absurd h (by decide)
        case refine_26 => exact fun h => absurd h (by decide)
        case refine_27 =>
          intro o ho vs lo hi W hB hv
          obtain rfl := Option.some.inj ho
          obtain ⟨h4, g4, _, _⟩ := hv ⟨4, .data⟩ (by simp) rfl
          obtain ⟨h6, g6, _, _⟩ := hv ⟨6, .data⟩ (by simp) rfl
          have h4 : W.ownsRow (lo 4) 2 1 (vs 4) m (intsV (rs.take m)) := h4.1
          have h6 : W.ownsRow (lo 6) 2 1 (vs 6) 1 (intsV [r]) := h6.1
          refine wpList_append_src rfl (.tmp 24) (.tmp 26) 32 rfl V2.heap.size 2 i9 (.int .i64 0) 1 8 Try.underlying32 hi9 hz9 hs9 hb9 rfl (by omega) (vs 4) m (intsV (rs.take m)) rfl (own_mono h4 g4) (vs 6) 1 (intsV [r]) rfl (src_own h6 (by omega)) (intsV_one _) (by unfold maxLen; omega) (by omega) hB.size ?_
          intro v' w' hown hgrow hat
          refine wpList_nil ?_
          refine ⟨v', rfl, hB.grown hgrow hB.size (fun j hj => (World.ownsRow.lt (own_mono h4 g4) j hj).1), ?_⟩
          rw [upd_same, intsV_append]
          exact hown
        case refine_28 =>
          intro q c o hq ho vs W hR hv
          match q, hq with
          | 0, hq =>
            obtain rfl : c = 11 := by simpa using hq.symm
            obtain rfl := Option.some.inj ho
            have e10 : vs 10 = .slice (some ⟨b, m, none⟩) (rs.length - m) (lc - m) := hv ⟨10, .data⟩ (by simp) rfl rfl
            obtain ⟨hB, hown7⟩ := hR
            refine wpList_append_src rfl (.tmp 27) (.tmp 30) 32 rfl V2.heap.size 2 i9 (.int .i64 0) 1 8 Try.underlying32 hi9 hz9 hs9 hb9 rfl (by omega) (vs 7) (m + 1) _ rfl hown7 (vs 10) (rs.length - m) (intsV (rs.drop m)) rfl (by rw [e10]; exact hsq.out W hB) (intsV_one _) (by unfold maxLen; omega) (by omega) hB.size ?_
            intro v' w' hown hgrow hat
            refine wpList_nil ?_
            refine ChainPost.mk' v' rfl ⟨hB.grown hgrow hB.size (fun j hj => (World.ownsRow.lt hown7 j hj).1), ?_⟩
            rw [upd_same, intsV_append]
            exact hown
          | q + 1, hq => simp at hq
        case refine_29 =>
          intro o ho vs W hR hv
          obtain rfl := Option.some.inj ho
          obtain ⟨hB, hown⟩ := hR
          have hfin : Hid (OutAt V2.heap.size W (vs 11) (addI rs r)) := by
            show W.ownsRow _ _ _ _ _ _
            rw [hins.out]
            have e : (rs.take m ++ [r] ++ rs.drop m).length = m + 1 + (rs.length - m) := by simp; omega
            rw [show (rs.take m ++ r :: rs.drop m) = rs.take m ++ [r] ++ rs.drop m by simp, e]
            exact hown
          have hfb : Hid (Below V2.heap.size V2 W) := hB
          clear hown hB
          obtain ⟨g, c, e11⟩ := own_some hfin.out (by rw [addI_length]; omega)
          rw [addI_length] at e11
          rw [e11] at hfin
          simp only [e11]
          go_wp2
          go_ret
          exact ⟨⟨g, c, rfl, hfin.out⟩, hfb.out⟩
end Go.Proofs.Ytchcdlelaklnnaa

/- What is still to be asked for: a slice somewhere in a row of the call's own. -/
namespace Go.Proofs.Ytchcdlelaklnnaa
set_option linter.unusedVariables false
open Go.RowKit

theorem setCells_grown (b : Nat) : ∀ (vs : List Value) (o : Nat) (w : World), w.grownBy (w.setCells b o vs) (some b)
  | [], o, w => ⟨rfl, rfl, rfl, Nat.le_refl _, fun _ _ _ => rfl⟩
  | v :: r, o, w => by
    rw [World.setCells]
    have h := setCells_grown b r (o + 1) (w.setCell ⟨b, o, none⟩ v)
    refine ⟨h.os, h.tape, h.output, by have := h.size; simpa [World.setCell] using this, fun k hk hne => ?_⟩
    rw [h.block k (by simpa [World.setCell] using hk) hne]
    exact Below.heap_setCell _ _ _ _ (fun e => hne (by rw [e]))
/-- The slice at cell o of block b, of capacity c, holds zs; its spare cells may be written. -/
structure TodoAt (B : Nat) (w : World) (b o c : Nat) (zs : List Int) : Prop where
  lo : B ≤ b
  hi : b < w.heap.size
  cap : zs.length ≤ c
  cells : ∀ j (h : j < zs.length), w.cell? ⟨b, o + j, none⟩ = some (.int .i64 zs[j])
  room : ∀ j, j < c → (w.cell? ⟨b, o + j, none⟩).isSome = true ∧ w.frozen? ⟨b, o + j, none⟩ = false
theorem TodoAt.kept {B : Nat} {w w' : World} {b o c : Nat} {zs : List Int} (h : TodoAt B w b o c zs) (hb : w'.heap[b]? = w.heap[b]?) (hs : w.heap.size ≤ w'.heap.size) : TodoAt B w' b o c zs := by
  have e1 : ∀ j, w'.cell? ⟨b, j, none⟩ = w.cell? ⟨b, j, none⟩ := fun j => World.cell?_of_block (w := w) hb
  have e2 : ∀ j, w'.frozen? ⟨b, j, none⟩ = w.frozen? ⟨b, j, none⟩ := fun j => World.frozen?_of_block (w := w) hb
  exact ⟨h.lo, Nat.lt_of_lt_of_le h.hi hs, h.cap, fun j hj => by rw [e1]; exact h.cells j hj, fun j hj => by rw [e1, e2]; exact h.room j hj⟩
theorem TodoAt.below {B : Nat} {w w' : World} {b o c : Nat} {zs : List Int} (h : TodoAt B w b o c zs) (hb : Below w.heap.size w w') : TodoAt B w' b o c zs := h.kept (hb.block b h.hi) hb.size
theorem TodoAt.grown {B : Nat} {w w' : World} {b o c : Nat} {zs : List Int} (h : TodoAt B w b o c zs) {row : Option Nat} (hg : w.grownBy w' row) (hne : some b ≠ row) : TodoAt B w' b o c zs := h.kept (hg.block b h.hi hne) hg.size
theorem TodoAt.mono {B B' : Nat} {w : World} {b o c : Nat} {zs : List Int} (h : TodoAt B w b o c zs) (hB : B' ≤ b) : TodoAt B' w b o c zs := ⟨hB, h.hi, h.cap, h.cells, h.room⟩
theorem TodoAt.of_own {B : Nat} {w : World} {g c n : Nat} {zs : List Int} (h : w.ownsRow B 2 1 (.slice (some ⟨g, 0, none⟩) n c) n (intsV zs)) : n = zs.length ∧ TodoAt B w g 0 c zs := by
  have hn : zs.length = n := by have := h.1; rw [intsV_length] at this; omega
  refine ⟨hn.symm, (World.ownsRow.lt h g rfl).1, (World.ownsRow.lt h g rfl).2, by have := own_cap h; omega, fun j hj => ?_, fun j hj => ⟨?_, ?_⟩⟩
  · rw [Nat.zero_add, World.ownsRow.cellAt h j (by omega)]
    simp [intsV, hj]
  · rcases h.2 with ⟨e, _⟩ | ⟨g', cap, cur, e, _, hg, _, _, hsz, _⟩
    · simp at e
    · simp only [Value.slice.injEq, Option.some.injEq, Addr.mk.injEq, and_true, true_and] at e
      obtain ⟨rfl, rfl⟩ := e
      rw [cell_of_row w g (0 + j) cur 2 (0, 0) hg]
      simp; omega
  · exact World.ownsRow.frozenAt h _
theorem TodoAt.tail {B : Nat} {w : World} {b o c : Nat} {z : Int} {zs : List Int} (h : TodoAt B w b o c (z :: zs)) : TodoAt B w b (o + 1) (c - 1) zs := by
  have hc := h.cap
  simp only [List.length_cons] at hc
  refine ⟨h.lo, h.hi, by omega, fun j hj => ?_, fun j hj => ?_⟩
  · have := h.cells (j + 1) (by simp; omega)
    rw [show o + 1 + j = o + (j + 1) by omega]
    simpa using this
  · rw [show o + 1 + j = o + (j + 1) by omega]
    exact h.room (j + 1) (by omega)
theorem TodoAt.none {B : Nat} {w : World} {b o c o' : Nat} {zs : List Int} (h : TodoAt B w b o c zs) : TodoAt B w b o' 0 [] := ⟨h.lo, h.hi, Nat.le_refl _, fun j hj => by simp at hj, fun j hj => by omega⟩
theorem wpList_append_todo {P : Program} {w : World} {ops : Array Oper} {rest : List Oper} {op : Oper} {a : Act} {Q : Exit → Act → World → Prop} (hgd : op.guard = none) (s x : Operand) (t : TypeId)
    (ho : op.op = .call { callee := .builtin .append, args := #[s, x], argTypes := #[t, t] })
    (i : TypeInfo) (ht : P.underlying t = some (.slice 2)) (hi : P.info? 2 = some i) (hz : i.zero = some (.int .i64 0)) (hsize : i.size = 1) (hby : i.bytes = 8)
    (B b o c : Nat) (zs : List Int) (hs : a.eval s = .slice (some ⟨b, o, none⟩) zs.length c) (hT : TodoAt B w b o c zs)
    (xv : Value) (ys : List Int) (hx : a.eval x = xv) (hsrc : SrcAt w 1 xv ys.length (intsV ys))
    (hB : B ≤ w.heap.size) (h63 : zs.length + ys.length ≤ 1000000000000)
    (h : ∀ b' o' c' w', TodoAt B w' b' o' c' (zs ++ ys) → w.grownBy w' (some b) → (b' = b ∨ w.heap.size ≤ b') → wpList P ops Q rest (a.put op.dst (.slice (some ⟨b', o', none⟩) (zs.length + ys.length) c')) w') :
    wpList P ops Q (op :: rest) a w := by
  rcases hsrc with ⟨e1, e2, e3⟩ | ⟨ad, cc, e1, hl, hc⟩
  · subst e1
    have e4 : ys = [] := List.eq_nil_of_length_eq_zero e2
    subst e4
    refine wpList_plain hgd fun K hK => ?_
    have hr : (Builtin.append_ #[t, t] op.type #[.slice (some ⟨b, o, none⟩) zs.length c, .slice none 0 0]).run P w = .ok (.slice (some ⟨b, o, none⟩) zs.length c) w := by
      simp [Builtin.append_, run_underlying ht, sizeOf, typeInfo, hi, Builtin.lenOf, Builtin.firstCells, storeCells, hT.cap]
    unfold Oper.wp execOp
    simp only [ho, resolve, invoke, builtin, Sem.run_bind, Sem.run_pure, Result.andThen_ok, List.map_toArray, List.map_cons, List.map_nil, hs, hx, hr]
    exact hK _ _ (h b o c w (by rw [List.append_nil]; exact hT) ⟨rfl, rfl, rfl, Nat.le_refl _, fun _ _ _ => rfl⟩ (.inl rfl))
  · subst e1
    refine wpList_append_arg w hgd s x t ho 2 i (.int .i64 0) 1 8 ht hi hz hsize hby rfl (by omega) b o zs.length c (intsV zs) hs (intsV_length _) (fun j u hj => ?_) ad ys.length cc (intsV ys) hx hl hc (intsV_one _) (fun hr j hj => ?_) (by unfold maxLen; omega) (by omega) (fun hr => ?_) (fun hr v' w' hown hg => ?_)
    · obtain ⟨hj1, hj2⟩ := List.getElem?_eq_some_iff.1 hj
      have hjl : j < zs.length := by rw [intsV_length] at hj1; omega
      rw [hT.cells j hjl, ← hj2]
      simp [intsV]
    · rw [intsV_length] at hj
      rw [show o + zs.length * 1 + j = o + (zs.length + j) by omega]
      exact hT.room (zs.length + j) (by omega)
    · have hsome : ∀ j, j < (intsV ys).length → (w.cell? ⟨b, o + zs.length * 1 + j, none⟩).isSome = true := fun j hj => by
        rw [intsV_length] at hj
        rw [show o + zs.length * 1 + j = o + (zs.length + j) by omega]
        exact (hT.room (zs.length + j) (by omega)).1
      refine h b o c _ ⟨hT.lo, by have := (setCells_grown b (intsV ys) (o + zs.length * 1) w).size; have := hT.hi; omega, by simp; omega, fun j hj => ?_, fun j hj => ⟨?_, ?_⟩⟩ (setCells_grown b _ _ w) (.inl rfl)
      · by_cases hjz : j < zs.length
        · rw [World.cell?_setCells_out b _ _ _ _ (fun _ _ => .inl (by show o + j < _; omega)), hT.cells j hjz]
          simp [hjz]
        · obtain ⟨k, rfl⟩ : ∃ k, j = zs.length + k := ⟨j - zs.length, by omega⟩
          have hk : k < ys.length := by simp at hj; omega
          have := World.cell?_setCells_in b (intsV ys) (o + zs.length * 1) w hsome k (by rw [intsV_length]; omega)
          rw [show o + (zs.length + k) = o + zs.length * 1 + k by omega, this]
          simp [intsV]
      · by_cases hjz : o + j < o + zs.length * 1 ∨ o + zs.length * 1 + (intsV ys).length ≤ o + j
        · rw [World.cell?_setCells_out b _ _ _ _ (fun _ _ => hjz)]
          exact (hT.room j hj).1
        · obtain ⟨k, rfl⟩ : ∃ k, j = zs.length + k := ⟨j - zs.length, by omega⟩
          have hk : k < (intsV ys).length := by omega
          rw [show o + (zs.length + k) = o + zs.length * 1 + k by omega, World.cell?_setCells_in b (intsV ys) (o + zs.length * 1) w hsome k hk]
          rfl
      · rw [World.frozen?_setCells]
        exact (hT.room j hj).2
    · obtain ⟨g, c', rfl⟩ := own_some hown (by omega)
      rw [← intsV_append] at hown
      have hg0 := (World.ownsRow.lt hown g rfl).1
      have hT' := (TodoAt.of_own hown).2
      exact h g 0 c' w' (hT'.mono (Nat.le_trans hB hg0)) ⟨hg.os, hg.tape, hg.output, hg.size, fun k hk _ => hg.block k hk (by simp)⟩ (.inr hg0)
end Go.Proofs.Ytchcdlelaklnnaa
