/- The program's marker: the white ones go. -/
import Derived.Test.YtcigiilhlealdaaKmF
import Derived.StillTailTactics
namespace Go.Proofs.Ytcigiilhlealdaa
set_option linter.unusedVariables false
open Go.ChangeShapes Go.WideShapes Go.ChangeAt Go.RowKit

theorem own_set {w : World} {B e g n c : Nat} {xs : List Value} (h : w.ownsRow B e 1 (.slice (some ⟨g, 0, none⟩) n c) n xs) (j : Nat) (v : Value) : (w.setCell ⟨g, j, none⟩ v).ownsRow B e 1 (.slice (some ⟨g, 0, none⟩) n c) n (xs.set j v) := by
  refine ⟨by rw [List.length_set]; exact h.1, ?_⟩
  rcases h.2 with ⟨q, _⟩ | ⟨g', cap, cur, q, hb, hg, h1, h2, h3, h4⟩
  · simp at q
  · have q' := q
    simp only [Value.slice.injEq, Option.some.injEq, Addr.mk.injEq, and_true, true_and] at q'
    obtain ⟨rfl, rfl⟩ := q'
    refine .inr ⟨g, c, cur.setIfInBounds j v, rfl, hb, set_same _ hg, h1, h2, by simpa using h3, ?_⟩
    rw [← h4, Array.toList_setIfInBounds, List.take_set]
def dropAt (obs : List ObM) (z : Int) : List ObM := obs.modify (z.toNat - 1) fun o => { o with there := false }
theorem dropAt_length (obs : List ObM) (z : Int) : (dropAt obs z).length = obs.length := by simp [dropAt]
theorem tabP_dropAt {ps : List Nat} {obs : List ObM} {z : Int} {o : ObM} (h : getM obs z = some o) : tabP ps (dropAt obs z) = (tabP ps obs).set z.toNat (.pointer none) := by
  obtain ⟨h1, h2, h3⟩ := getM_some.1 h
  have hl := (List.getElem?_eq_some_iff.1 h2).1
  obtain ⟨m, hm⟩ : ∃ m, z.toNat = m + 1 := ⟨z.toNat - 1, by omega⟩
  rw [hm] at h2 hl ⊢
  simp only [Nat.add_sub_cancel] at h2 hl
  refine List.ext_getElem (by simp [tabP, dropAt]) fun i q1 q2 => ?_
  cases i with
  | zero => simp [tabP]
  | succ i =>
    have hi : i < obs.length := by simp [tabP, dropAt] at q1; omega
    by_cases e : i = m
    · subst e
      simp [tabP, dropAt, hm, hi]
    · have e2 : ¬ m = i := fun q => e q.symm
      have e3 : ¬ m + 1 = i + 1 := by omega
      simp [tabP, dropAt, hm, e2, hi, List.getElem?_modify]
theorem ImW.drop {w : World} {F : Nat → Prop} {M : Nat} {s : StM} {ps fs : List Nat} {ov tv : Value} (h : ImW w F M s ps fs ov tv) {z : Int} {o : ObM} (hg : getM s.obs z = some o) {g : Nat} (ho : ov.ownBlock = some g) : ImW (w.setCell ⟨g, z.toNat, none⟩ (.pointer none)) F M { s with obs := dropAt s.obs z } ps fs ov tv ∧ Keep F w (w.setCell ⟨g, z.toNat, none⟩ (.pointer none)) := by
  obtain ⟨_, cur, hb⟩ := h.ltO ho
  have how := h.ow
  obtain ⟨g2, c, e⟩ := own_some h.ow (by omega)
  have e0 := e
  rw [e] at ho
  simp only [Value.ownBlock, Option.some.injEq] at ho
  subst ho
  refine ⟨⟨⟨by rw [dropAt_length]; exact h.ob.lp, by rw [dropAt_length]; exact h.ob.lf, fun i x hx => ?_, h.ob.nd, h.ob.lo⟩, ?_, ?_, h.ro.kept fun k q => ?_, h.ne, h.rl, ⟨h.lo.1, fun k q => by have := h.lo.2 k q; simpa [World.setCell] using this⟩, h.fo⟩, (Keep.refl _ _).setCell (p := ⟨g2, _, none⟩) (h.fo.1 g2 (by rw [e]; rfl)) _⟩
  · unfold dropAt at hx
    rw [List.getElem?_modify] at hx
    cases hxi : s.obs[i]? with
    | none => rw [hxi] at hx; simp at hx
    | some y =>
      rw [hxi] at hx
      have hy : x.flds = y.flds ∧ x.col = y.col := by
        by_cases q : z.toNat - 1 = i
        · simp [q] at hx; subst hx; exact ⟨rfl, rfl⟩
        · simp [q] at hx; subst hx; exact ⟨rfl, rfl⟩
      have a := h.ob.at_ i y hxi
      refine ⟨?_, ?_⟩
      · rw [hy.1, hy.2, set_other _ (tag_ne a.blk hb (by decide))]
        exact a.blk
      · rw [hy.1, set_other _ (tag_ne a.row hb (by decide))]
        exact a.row
  · rw [set_other _ (tag_ne h.blk hb (by decide))]
    exact h.blk
  · show World.ownsRow _ _ _ _ _ ((dropAt s.obs z).length + 1) (tabP ps (dropAt s.obs z))
    rw [dropAt_length, tabP_dropAt hg]
    rw [e] at how ⊢
    exact own_set how _ _
  · obtain ⟨_, c2, b⟩ := h.ltT q
    exact set_other _ (fun e9 => h.ne g2 (by rw [e]; rfl) (e9 ▸ q))
def dropK (obs : List ObM) (ix : List Nat) : List ObM := obs.mapIdx fun i o => if i ∈ ix ∧ o.col = 1 then { o with there := false } else o
theorem dropK_get (obs : List ObM) (ix : List Nat) (i : Nat) : (dropK obs ix)[i]? = (obs[i]?).map fun o => if i ∈ ix ∧ o.col = 1 then { o with there := false } else o := by
  unfold dropK
  rw [List.getElem?_mapIdx]
theorem dropK_length (obs : List ObM) (ix : List Nat) : (dropK obs ix).length = obs.length := by simp [dropK]
theorem dropK_nil (obs : List ObM) : dropK obs [] = obs := by
  refine List.ext_getElem? fun i => ?_
  rw [dropK_get]
  cases obs[i]? <;> simp
theorem dropK_left {obs : List ObM} {ix : List Nat} {i : Nat} {o : ObM} (h : obs[i]? = some o) (hc : o.col ≠ 1) : dropK obs (ix ++ [i]) = dropK obs ix := by
  refine List.ext_getElem? fun j => ?_
  rw [dropK_get, dropK_get]
  by_cases e : j = i
  · subst e
    rw [h]
    simp [hc]
  · cases obs[j]? <;> simp [e]
theorem dropK_white {obs : List ObM} {ix : List Nat} {i : Nat} {o : ObM} (h : obs[i]? = some o) (hc : o.col = 1) : dropK obs (ix ++ [i]) = dropAt (dropK obs ix) ((i : Int) + 1) := by
  refine List.ext_getElem? fun j => ?_
  rw [dropAt, List.getElem?_modify, dropK_get, dropK_get, show ((i : Int) + 1).toNat - 1 = i by omega]
  by_cases e : j = i
  · subst e
    rw [h]
    by_cases q : j ∈ ix <;> simp [hc, q]
  · have e' : ¬ i = j := fun q => e q.symm
    cases obs[j]? with
    | none => simp
    | some x => by_cases q : j ∈ ix <;> simp [e, e', q]
theorem dropK_cur {obs : List ObM} {ix : List Nat} {i : Nat} {o : ObM} (h : getM obs ((i : Int) + 1) = some o) (hi : i ∉ ix) : getM (dropK obs ix) ((i : Int) + 1) = some o := by
  obtain ⟨h1, h2, h3⟩ := getM_some.1 h
  refine getM_some.2 ⟨h1, ?_, h3⟩
  rw [show ((i : Int) + 1).toNat - 1 = i by omega] at h2 ⊢
  rw [dropK_get, h2]
  simp [hi]
theorem dropK_paint (obs : List ObM) : paintM (dropK obs (therL obs)) 0 = sweepM obs := by
  refine List.ext_getElem? fun i => ?_
  unfold paintM sweepM
  rw [List.getElem?_map, List.getElem?_map, dropK_get]
  cases h : obs[i]? with
  | none => rfl
  | some o =>
    cases ht : o.there with
    | true =>
      have : i ∈ therL obs := mem_therL.2 ⟨o, h, ht⟩
      by_cases hc : o.col = 1 <;> simp [this, hc, ht]
    | false =>
      have : i ∉ therL obs := fun q => by
        obtain ⟨o', h1, h2⟩ := mem_therL.1 q
        rw [h] at h1
        injection h1 with h1
        subst h1
        rw [ht] at h2
        cases h2
      simp [this, ht]
/-- Where the dropping stands. -/
structure DrW (w wr : World) (F : Nat → Prop) (M : Nat) (t : StM) (ps fs : List Nat) (ov tv gv rv : Value) (ix : List Nat) : Prop where
  im : ImW wr (fun k => F k ∨ gv.ownBlock = some k) M { t with obs := dropK t.obs ix } ps fs ov tv
  go : OutAt w.heap.size wr gv (goneL t.obs ix)
  th : wr.ownsRow w.heap.size 67 1 rv (therL t.obs).length (ptrsP ps (therL t.obs))
  kp : Keep F w wr
  fl : ∀ k, F k → k < w.heap.size
  ol : ∀ k, ov.ownBlock = some k → k < w.heap.size
theorem DrW.ne {w wr : World} {F : Nat → Prop} {M : Nat} {t : StM} {ps fs : List Nat} {ov tv gv rv : Value} {ix : List Nat} (h : DrW w wr F M t ps fs ov tv gv rv ix) {k : Nat} (q : gv.ownBlock = some k) : ¬ F k ∧ rv.ownBlock ≠ some k ∧ k < wr.heap.size := by
  refine ⟨fun r => ?_, fun r => ?_, (World.ownsRow.lt h.go k q).2⟩
  · have := (World.ownsRow.lt h.go k q).1
    have := h.fl k r
    omega
  · obtain ⟨c1, a⟩ := own_tag h.go q
    obtain ⟨c2, b⟩ := own_tag h.th r
    exact tag_ne a b (by decide) rfl
theorem DrW.left {w wr : World} {F : Nat → Prop} {M : Nat} {t : StM} {ps fs : List Nat} {ov tv gv rv : Value} {ix : List Nat} {i : Nat} {o : ObM} (h : DrW w wr F M t ps fs ov tv gv rv ix) (hi : t.obs[i]? = some o) (hc : o.col ≠ 1) : DrW w wr F M t ps fs ov tv gv rv (ix ++ [i]) := by
  refine ⟨?_, ?_, h.th, h.kp, h.fl, h.ol⟩
  · rw [dropK_left hi hc]
    exact h.im
  · rw [(leftL_snoc (ix := ix) hi hc).2]
    exact h.go
theorem DrW.white {w wr : World} {F : Nat → Prop} {M : Nat} {t : StM} {ps fs : List Nat} {ov tv gv rv : Value} {ix : List Nat} {i : Nat} {o : ObM} {tg : Nat} (h : DrW w wr F M t ps fs ov tv gv rv ix) (hg : getM t.obs ((i : Int) + 1) = some o) (hn : i ∉ ix) (hc : o.col = 1) (ho : ov.ownBlock = some tg) :
    ImW (wr.setCell ⟨tg, i + 1, none⟩ (.pointer none)) (fun k => F k ∨ gv.ownBlock = some k) M { t with obs := dropK t.obs (ix ++ [i]) } ps fs ov tv ∧ OutAt w.heap.size (wr.setCell ⟨tg, i + 1, none⟩ (.pointer none)) gv (goneL t.obs ix) ∧ (wr.setCell ⟨tg, i + 1, none⟩ (.pointer none)).ownsRow w.heap.size 67 1 rv (therL t.obs).length (ptrsP ps (therL t.obs)) ∧ Keep F w (wr.setCell ⟨tg, i + 1, none⟩ (.pointer none)) := by
  have hcur := dropK_cur (ix := ix) hg hn
  obtain ⟨a, b⟩ := h.im.drop (z := (i : Int) + 1) hcur ho
  obtain ⟨_, h2, _⟩ := getM_some.1 hg
  rw [show ((i : Int) + 1).toNat - 1 = i by omega] at h2
  rw [show ((i : Int) + 1).toNat = i + 1 by omega] at a b
  refine ⟨?_, ?_, ?_, h.kp.trans (b.mono fun k q => .inl q)⟩
  · rw [dropK_white h2 hc]
    exact a
  · exact own_kept h.go fun k q => by
      obtain ⟨c1, d⟩ := own_tag h.go q
      obtain ⟨_, c2, e⟩ := h.im.ltO ho
      exact set_other _ (tag_ne d e (by decide))
  · exact own_kept h.th fun k q => set_other _ fun e => by
      have := (World.ownsRow.lt h.th k q).1
      have := h.ol tg ho
      omega
theorem DrW.gone {w wr W w3 : World} {F : Nat → Prop} {M : Nat} {t : StM} {ps fs : List Nat} {ov tv gv rv gv' : Value} {ix : List Nat} {i : Nat} {o : ObM} {ob : Obj} (h : DrW w wr F M t ps fs ov tv gv rv ix) (hi : t.obs[i]? = some o) (hc : o.col = 1)
    (hW : ImW W (fun k => F k ∨ gv.ownBlock = some k) M { t with obs := dropK t.obs (ix ++ [i]) } ps fs ov tv ∧ OutAt w.heap.size W gv (goneL t.obs ix) ∧ W.ownsRow w.heap.size 67 1 rv (therL t.obs).length (ptrsP ps (therL t.obs)) ∧ Keep F w W)
    (hg : (W.alloc ob).grownBy w3 gv.ownBlock) (ho : w3.ownsRow w.heap.size 2 1 gv' ((goneL t.obs ix).length + 1) (intsV (goneL t.obs ix) ++ [.int .i64 ((i : Int) + 1)])) (ha : gv'.ownBlock = gv.ownBlock ∨ gv'.ownBlock = some (W.alloc ob).heap.size) : DrW w w3 F M t ps fs ov tv gv' rv (ix ++ [i]) := by
  obtain ⟨hI, hO, hT, hK⟩ := hW
  have s1 : (W.alloc ob).heap.size = W.heap.size + 1 := World.size_alloc _ _
  have s2 := hg.size
  have kp : ∀ k, k < W.heap.size → gv.ownBlock ≠ some k → w3.heap[k]? = W.heap[k]? := fun k hk hq => by
    rw [hg.block k (by omega) (fun e => hq e.symm), Below.heap_alloc _ _ _ hk]
  have hnew : ∀ k, k < W.heap.size → gv.ownBlock ≠ some k → gv'.ownBlock ≠ some k := fun k hk hq q => by
    rcases ha with e | e
    · exact hq (e.symm.trans q)
    · rw [e] at q
      injection q with q
      omega
  have hsz := hK.size
  refine ⟨?_, ?_, ?_, ?_, h.fl, h.ol⟩
  · refine hI.mv (fun k hk hn => ⟨kp k hk (fun q => hn (.inr q)), fun q => ?_⟩) fun k hk => ?_
    · rcases q with q | q
      · exact hn (.inl q)
      · exact hnew k hk (fun q => hn (.inr q)) q
    · rcases hk with q | q
      · have := h.fl k q
        omega
      · exact (World.ownsRow.lt ho k q).2
  · rw [(goneL_snoc (ix := ix) hi hc).1]
    unfold OutAt
    rw [List.length_append, intsV_append]
    exact ho
  · refine own_kept hT fun k q => kp k (World.ownsRow.lt hT k q).2 fun r => ?_
    obtain ⟨c1, a⟩ := own_tag hO r
    obtain ⟨c2, b⟩ := own_tag hT q
    exact tag_ne a b (by decide) rfl
  · refine hK.trans ⟨hg.os, hg.tape, hg.output, by omega, fun k hk => ?_⟩
    have := h.fl k hk
    exact kp k (by omega) (fun q => (h.ne q).1 hk)
end Go.Proofs.Ytcigiilhlealdaa
