/- Lists of classes as they grow. -/
import Derived.Test.YtnoffenkmcmpfaaDoorBtD
namespace Go.Proofs.YtnoffenkmcmpfaaDoor
set_option linter.unusedVariables false
open Go.ChangeShapes Go.WideShapes Go.ChangeAt Go.RowKit

/-- Every block of F is there, with cells of another type than a class. -/
def Other (W : World) (F : List Nat) : Prop := ∀ b ∈ F, ∃ cur t, W.heap[b]? = some (.cells cur t (0, 0)) ∧ t ≠ 42
theorem Other.eqOn {W W' : World} {F : List Nat} (h : Other W F) (he : EqOn F W W') : Other W' F := fun b hb => by
  obtain ⟨cur, t, h1, h2⟩ := h b hb
  exact ⟨cur, t, (he b hb).trans h1, h2⟩
theorem ListF.other {α : Type} {R : RdF α} {k : Nat} {t : TypeId} {w : World} {v : Value} {xs : List α} {F : List Nat} (h : ListF R k t w v xs F) (ht : t ≠ 42) (hR : ∀ row x G, R w row x G → Other w G) : Other w F := by
  rcases h with ⟨_, _, rfl⟩ | ⟨b, c, Fs, cur, hv, rfl, hl, hh, hs, hc⟩
  · intro b hb; cases hb
  · intro d hd
    rcases List.mem_cons.1 hd with rfl | hd
    · exact ⟨cur, t, hh, ht⟩
    · obtain ⟨G, hG, hdG⟩ := List.mem_flatten.1 hd
      obtain ⟨j, hj, rfl⟩ := List.getElem_of_mem hG
      obtain ⟨row, h1, h2, h3⟩ := hc j (by omega)
      exact hR _ _ _ h3 d (by rw [List.getElem?_eq_getElem hj]; exact hdG)
theorem ClassF.other {w : World} {row : List Value} {x : ClassL} {F : List Nat} (h : ClassF w row x F) : Other w F := by
  obtain ⟨s, t, F1, F2, h1, h2, h3, rfl⟩ := h
  have o1 : Other w F1 := h2.other (by decide) (fun row x G hG => by rw [hG.2]; intro b hb; cases hb)
  have o2 : Other w F2 := h3.other (by decide) (fun row x G hG => by
    obtain ⟨c, _, hc⟩ := hG
    exact hc.other (by decide) (fun row x G hG => by rw [hG.2]; intro b hb; cases hb))
  intro b hb
  rcases List.mem_append.1 hb with hb | hb
  · exact o1 b hb
  · exact o2 b hb
abbrev Clss := List (ClassL × List Value × List Nat)
def Clss.foot (cs : Clss) : List Nat := List.flatten (cs.map (·.2.2))
structure ClsIn (w : World) (cs : Clss) (W : World) : Prop where
  all : ∀ m ∈ cs, ClassF W m.2.1 m.1 m.2.2 ∧ m.2.1.length = 7
  nd : cs.foot.Nodup
  ge : ∀ b ∈ cs.foot, w.heap.size ≤ b
theorem ClsIn.lt {w W : World} {cs : Clss} (h : ClsIn w cs W) : ∀ b ∈ cs.foot, b < W.heap.size := fun b hb => by
  obtain ⟨G, hG, hbG⟩ := List.mem_flatten.1 hb
  obtain ⟨m, hm, rfl⟩ := List.mem_map.1 hG
  exact ClassF.good.lt (h.all m hm).1 b hbG
theorem ClsIn.other {w W : World} {cs : Clss} (h : ClsIn w cs W) : Other W cs.foot := fun b hb => by
  obtain ⟨G, hG, hbG⟩ := List.mem_flatten.1 hb
  obtain ⟨m, hm, rfl⟩ := List.mem_map.1 hG
  exact ClassF.other (h.all m hm).1 b hbG
theorem ClsIn.eqOn {w W W' : World} {cs : Clss} (h : ClsIn w cs W) (he : EqOn cs.foot W W') : ClsIn w cs W' := ⟨fun m hm => ⟨ClassF.good.stab (h.all m hm).1 fun b hb => he b (List.mem_flatten.2 ⟨m.2.2, List.mem_map.2 ⟨m, hm, rfl⟩, hb⟩), (h.all m hm).2⟩, h.nd, h.ge⟩
theorem ClsIn.call {w W W' : World} {cs : Clss} (h : ClsIn w cs W) (hb : Below W.heap.size W W') : ClsIn w cs W' := h.eqOn (EqOn.below hb h.lt)
theorem ClsIn.nil (w W : World) : ClsIn w [] W := ⟨fun m hm => (List.not_mem_nil hm).elim, List.nodup_nil, fun b hb => (List.not_mem_nil hb).elim⟩
/-- A class more: what was there is left alone, its blocks are new. -/
theorem ClsIn.add {w W W' : World} {cs : Clss} (h : ClsIn w cs W) (hb : Below W.heap.size W W') (hw : w.heap.size ≤ W.heap.size) {row : List Value} {x : ClassL} (hl : row.length = 7) (ho : ClassOwn W W' row x) : ∃ F, ClsIn w (cs ++ [(x, row, F)]) W' := by
  obtain ⟨F, h1, h2, h3⟩ := ho
  have e : Clss.foot (cs ++ [(x, row, F)]) = cs.foot ++ F := by simp [Clss.foot]
  refine ⟨F, fun m hm => ?_, ?_, ?_⟩
  · rcases List.mem_append.1 hm with hm | hm
    · exact (h.call hb).all m hm
    · simp only [List.mem_singleton] at hm
      subst hm
      exact ⟨h1, hl⟩
  · rw [e, List.nodup_append]
    exact ⟨h.nd, h2, fun a ha b' hb' e2 => by subst e2; have := h.lt a ha; have := h3 a hb'; omega⟩
  · rw [e]
    intro b hb'
    rcases List.mem_append.1 hb' with hb' | hb'
    · exact h.ge b hb'
    · have := h3 b hb'; omega
/-- An append to the list's own block leaves the classes' blocks alone. -/
theorem ClsIn.grown {w W W' : World} {cs : Clss} (h : ClsIn w cs W) {base n : Nat} {v : Value} {xs : List Value} (ho : W.ownsRow base 42 7 v n xs) (hg : W.grownBy W' v.ownBlock) : ClsIn w cs W' := h.eqOn fun b hb => by
  obtain ⟨cur, t, h1, h2⟩ := h.other b hb
  refine hg.block b (heap_lt h1) fun e => ?_
  obtain ⟨_, ⟨rfl, _⟩ | ⟨g, cap, cur', rfl, _, hgg, _⟩⟩ := ho
  · cases e
  · have : b = g := by simpa [Value.ownBlock] using e
    subst this
    rw [h1] at hgg
    injection hgg with hgg
    injection hgg with _ h3 _
    exact h2 h3
/-- The list of classes, out of what is owned. -/
theorem ClsIn.list {w W : World} {cs : Clss} (h : ClsIn w cs W) {v : Value} {n : Nat} (ho : W.ownsRow w.heap.size 42 7 v n ((cs.map (·.2.1)).flatten)) (hn : n = cs.length) (h0 : 0 < cs.length) : ∃ F, ListF ClassF 7 42 W v (cs.map (·.1)) F ∧ F.Nodup ∧ ∀ b ∈ F, w.heap.size ≤ b := by
  obtain ⟨hlen, ⟨_, rfl⟩ | ⟨g, cap, cur, rfl, hbg, hg, hnc, hcm, hcs, htake⟩⟩ := ho
  · omega
  · refine ⟨g :: cs.foot, ?_, ?_, ?_⟩
    · have hl := listF_rows (R := ClassF) (k := 7) (t := 42) (c := cap) (xs := cs.map (·.1)) (rows := cs.map (·.2.1)) (Fs := cs.map (·.2.2)) (rest := cur.toList.drop (n * 7)) hg (by rw [← htake]; exact (List.take_append_drop _ _).symm) (fun r hr => by
        obtain ⟨m, hm, rfl⟩ := List.mem_map.1 hr
        exact (h.all m hm).2) (by simp) (by simp) (fun j hj => by
        have hj' : j < cs.length := by simpa using hj
        have := (h.all cs[j] (List.getElem_mem hj')).1
        simpa [hj'] using this)
      rw [List.length_map, ← hn] at hl
      exact hl
    · simp only [List.nodup_cons]
      refine ⟨fun hm => ?_, h.nd⟩
      obtain ⟨cur', t, h1, h2⟩ := h.other g hm
      rw [hg] at h1
      injection h1 with h1
      injection h1 with _ h3 _
      exact h2 h3.symm
    · intro b hb
      rcases List.mem_cons.1 hb with rfl | hb
      · exact hbg
      · exact h.ge b hb
end Go.Proofs.YtnoffenkmcmpfaaDoor
