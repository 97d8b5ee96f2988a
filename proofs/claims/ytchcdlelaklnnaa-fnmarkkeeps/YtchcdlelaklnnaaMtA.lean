/- The marker's heap is given back. -/
import Derived.Test.YtchcdlelaklnnaaMaD
import Derived.Test.YtchcdlelaklnnaaKmO
namespace Go.Proofs.Ytchcdlelaklnnaa
set_option linter.unusedVariables false
open Go.ChangeShapes Go.WideShapes Go.ChangeAt Go.RowKit

/-- The object at a place, as it is told. -/
def obP (obs : List ObM) (i : Nat) : ObP := match obs[i]? with | some o => ⟨(i : Int) + 1, o.flds, o.col⟩ | none => ⟨0, [], 0⟩
theorem obP_some {obs : List ObM} {i : Nat} {o : ObM} (h : obs[i]? = some o) : obP obs i = ⟨(i : Int) + 1, o.flds, o.col⟩ := by simp [obP, h]
def obsP (obs : List ObM) : List ObP := (therL obs).map (obP obs)
theorem obsP_length (obs : List ObM) : (obsP obs).length = (therL obs).length := by simp [obsP]
theorem obsP_get {obs : List ObM} {j : Nat} (h : j < (obsP obs).length) : (obsP obs)[j] = obP obs ((therL obs)[j]'(by rw [← obsP_length]; exact h)) := by simp [obsP]
theorem therL_at {obs : List ObM} {j : Nat} (h : j < (therL obs).length) : ∃ o, obs[(therL obs)[j]]? = some o ∧ o.there = true := mem_therL.1 (List.getElem_mem h)
def fldV (fs : List Nat) (i n : Nat) : Value := .slice (some ⟨fs.getD i 0, 0, none⟩) n n
def mobV (obs : List ObM) (fs : List Nat) (i : Nat) : MobV := ⟨(obP obs i).id, some ⟨fs.getD i 0, 0, none⟩, (obP obs i).flds.length, (obP obs i).flds.length, (obP obs i).col⟩
/-- The row of objects as it is made. -/
def ObW (W0 W : World) (s : StM) (fs : List Nat) (v : Value) (m1 : Nat) : Prop :=
  ∃ b, v = .slice (some ⟨b, 0, none⟩) (obsP s.obs).length (obsP s.obs).length ∧ W0.heap.size ≤ b ∧ b < m1 ∧ m1 ≤ W.heap.size ∧ W.there b 0 ((obsP s.obs).length * 3) ∧ ∀ j (h : j < (therL s.obs).length), W.rangeAt b (j * 3) (mobV s.obs fs (therL s.obs)[j]).row3
theorem ObW.same {W0 W W' : World} {s : StM} {fs : List Nat} {v : Value} {m1 : Nat} (h : ObW W0 W s fs v m1) (hs : Same W0.heap.size m1 W W') (hz : W.heap.size ≤ W'.heap.size) : ObW W0 W' s fs v m1 := by
  obtain ⟨b, h1, h2, h3, h4, h5, h6⟩ := h
  exact ⟨b, h1, h2, h3, by omega, there_same hs h2 h3 h5, fun j hj => rangeAt_same hs h2 h3 (h6 j hj)⟩
theorem ObW.form {W0 W : World} {s : StM} {fs : List Nat} {v : Value} {m1 : Nat} (h : ObW W0 W s fs v m1) : ∃ b, v = .slice (some ⟨b, 0, none⟩) (obsP s.obs).length (obsP s.obs).length := by
  obtain ⟨b, h1, _⟩ := h
  exact ⟨b, h1⟩
def RtW (W0 W : World) (s : StM) (fs : List Nat) (v r : Value) (m1 m2 : Nat) : Prop := ObW W0 W s fs v m1 ∧ W0.heap.size ≤ m1 ∧ m1 ≤ m2 ∧ m2 ≤ W.heap.size ∧ IntsAt m1 m2 W r s.roots
theorem RtW.same {W0 W W' : World} {s : StM} {fs : List Nat} {v r : Value} {m1 m2 : Nat} (h : RtW W0 W s fs v r m1 m2) (hs : Same W0.heap.size m2 W W') (hz : W.heap.size ≤ W'.heap.size) : RtW W0 W' s fs v r m1 m2 :=
  ⟨h.1.same (hs.mono (Nat.le_refl _) h.2.2.1) hz, h.2.1, h.2.2.1, Nat.le_trans h.2.2.2.1 hz, h.2.2.2.2.kept (hs.mono h.2.1 (Nat.le_refl _))⟩
def QuW (W0 W : World) (s : StM) (fs : List Nat) (v r q : Value) (m1 m2 m3 : Nat) : Prop := RtW W0 W s fs v r m1 m2 ∧ m2 ≤ m3 ∧ m3 ≤ W.heap.size ∧ IntsAt m2 m3 W q s.row
theorem QuW.same {W0 W W' : World} {s : StM} {fs : List Nat} {v r q : Value} {m1 m2 m3 : Nat} (h : QuW W0 W s fs v r q m1 m2 m3) (hs : Same W0.heap.size m3 W W') (hz : W.heap.size ≤ W'.heap.size) : QuW W0 W' s fs v r q m1 m2 m3 :=
  ⟨h.1.same (hs.mono (Nat.le_refl _) h.2.1) hz, h.2.1, Nat.le_trans h.2.2.1 hz, h.2.2.2.kept (hs.mono (Nat.le_trans h.1.2.1 h.1.2.2.1) (Nat.le_refl _))⟩
theorem sameB {W0 W W' : World} (h : Below W.heap.size W W') {m : Nat} (hm : m ≤ W.heap.size) : Same W0.heap.size m W W' := (Same.below h).mono (Nat.zero_le _) hm
/-- The chain of the region that puts the heap together. -/
def hpP (W0 : World) (s : StM) (ps fs : List Nat) : Nat → Value → Value → Value → Value → Value → World → Prop
  | 0, _, _, _, _, _, W => Below W0.heap.size W0 W
  | 1, a, _, _, _, _, W => Below W0.heap.size W0 W ∧ W.ownsRow W0.heap.size 62 1 a (therL s.obs).length (ptrsP ps (therL s.obs))
  | 2, _, b, _, _, _, W => Below W0.heap.size W0 W ∧ ∃ m1, ObW W0 W s fs b m1
  | 3, _, b, c, _, _, W => Below W0.heap.size W0 W ∧ ∃ m1 m2, RtW W0 W s fs b c m1 m2
  | 4, _, b, c, d, _, W => Below W0.heap.size W0 W ∧ ∃ m1 m2 m3, QuW W0 W s fs b c d m1 m2 m3
  | _, _, b, c, d, e, W => Below W0.heap.size W0 W ∧ (∃ m1 m2 m3, QuW W0 W s fs b c d m1 m2 m3) ∧ e = .agg #[b, c, .bool s.cyc, d]
def hpR (W0 : World) (s : StM) (ps fs : List Nat) (k : Nat) (vs : Nat → Value) (W : World) : Prop := hpP W0 s ps fs k (vs 1) (vs 2) (vs 7) (vs 17) (vs 18) W
theorem hpR_below {W0 : World} {s : StM} {ps fs : List Nat} {k : Nat} {vs : Nat → Value} {W : World} (h : hpR W0 s ps fs k vs W) : Below W0.heap.size W0 W := by
  unfold hpR at h
  match k, h with
  | 0, h => exact h
  | 1, h => exact h.1
  | 2, h => exact h.1
  | 3, h => exact h.1
  | 4, h => exact h.1
  | _ + 5, h => exact h.1
theorem hpR_loc (W0 : World) (s : StM) (ps fs : List Nat) : ∀ k vs i v w, i ∉ [1, 2, 7, 17, 18] → hpR W0 s ps fs k vs w → hpR W0 s ps fs k (upd vs i v) w := fun k vs i v w hi h => by
  have e1 : upd vs i v 1 = vs 1 := upd_other _ _ (fun e => hi (by simp [← e]))
  have e2 : upd vs i v 2 = vs 2 := upd_other _ _ (fun e => hi (by simp [← e]))
  have e7 : upd vs i v 7 = vs 7 := upd_other _ _ (fun e => hi (by simp [← e]))
  have e17 : upd vs i v 17 = vs 17 := upd_other _ _ (fun e => hi (by simp [← e]))
  have e18 : upd vs i v 18 = vs 18 := upd_other _ _ (fun e => hi (by simp [← e]))
  unfold hpR
  rw [e1, e2, e7, e17, e18]
  exact h
theorem hpR_1 {W0 W : World} {s : StM} {ps fs : List Nat} {vs : Nat → Value} {v : Value} (hb : Below W0.heap.size W0 W) (h : W.ownsRow W0.heap.size 62 1 v (therL s.obs).length (ptrsP ps (therL s.obs))) : hpR W0 s ps fs 1 (upd vs 1 v) W := by
  show _ ∧ W.ownsRow _ _ _ (upd vs 1 v 1) _ _
  rw [upd_same]
  exact ⟨hb, h⟩
theorem hpR_2 {W0 W : World} {s : StM} {ps fs : List Nat} {vs : Nat → Value} {v : Value} {m1 : Nat} (hb : Below W0.heap.size W0 W) (h : ObW W0 W s fs v m1) : hpR W0 s ps fs 2 (upd vs 2 v) W := by
  show _ ∧ ∃ m1, ObW W0 W s fs (upd vs 2 v 2) m1
  rw [upd_same]
  exact ⟨hb, m1, h⟩
theorem hpR_3 {W0 W : World} {s : StM} {ps fs : List Nat} {vs : Nat → Value} {v : Value} {m1 m2 : Nat} (hb : Below W0.heap.size W0 W) (h : RtW W0 W s fs (vs 2) v m1 m2) : hpR W0 s ps fs 3 (upd vs 7 v) W := by
  show _ ∧ ∃ m1 m2, RtW W0 W s fs (upd vs 7 v 2) (upd vs 7 v 7) m1 m2
  rw [upd_same, upd_other _ _ (by decide)]
  exact ⟨hb, m1, m2, h⟩
theorem hpR_4 {W0 W : World} {s : StM} {ps fs : List Nat} {vs : Nat → Value} {v : Value} {m1 m2 m3 : Nat} (hb : Below W0.heap.size W0 W) (h : QuW W0 W s fs (vs 2) (vs 7) v m1 m2 m3) : hpR W0 s ps fs 4 (upd vs 17 v) W := by
  show _ ∧ ∃ m1 m2 m3, QuW W0 W s fs (upd vs 17 v 2) (upd vs 17 v 7) (upd vs 17 v 17) m1 m2 m3
  rw [upd_same, upd_other _ _ (by decide), upd_other _ _ (by decide)]
  exact ⟨hb, m1, m2, m3, h⟩
theorem hpR_5 {W0 W : World} {s : StM} {ps fs : List Nat} {vs : Nat → Value} {v : Value} {m1 m2 m3 : Nat} (hb : Below W0.heap.size W0 W) (h : QuW W0 W s fs (vs 2) (vs 7) (vs 17) m1 m2 m3) (he : v = .agg #[vs 2, vs 7, .bool s.cyc, vs 17]) : hpR W0 s ps fs 5 (upd vs 18 v) W := by
  show _ ∧ (∃ m1 m2 m3, QuW W0 W s fs (upd vs 18 v 2) (upd vs 18 v 7) (upd vs 18 v 17) m1 m2 m3) ∧ upd vs 18 v 18 = .agg #[upd vs 18 v 2, upd vs 18 v 7, .bool s.cyc, upd vs 18 v 17]
  rw [upd_same, upd_other _ _ (by decide), upd_other _ _ (by decide), upd_other _ _ (by decide)]
  exact ⟨hb, ⟨m1, m2, m3, h⟩, he⟩
theorem RtW.mk1 {W0 W W2 : World} {s : StM} {fs : List Nat} {v r : Value} {m1 : Nat} (h : ObW W0 W s fs v m1) (hB : Below W0.heap.size W0 W) (hB2 : Below W.heap.size W W2) (hr : IntsAt W.heap.size W2.heap.size W2 r s.roots) : RtW W0 W2 s fs v r W.heap.size W2.heap.size := by
  have h2 := h.same (W' := W2) ((Same.below hB2).mono (Nat.zero_le _) (by obtain ⟨b, _, _, _, q, _⟩ := h; exact q)) hB2.size
  obtain ⟨b, a1, a2, a3, a4, a5, a6⟩ := h2
  obtain ⟨_, _, _, _, c4, _, _⟩ := h
  exact ⟨⟨b, a1, a2, by omega, hB2.size, a5, a6⟩, hB.size, hB2.size, Nat.le_refl _, hr⟩
theorem QuW.mk1 {W0 W W2 : World} {s : StM} {fs : List Nat} {v r q : Value} {m1 m2 : Nat} (h : RtW W0 W s fs v r m1 m2) (hB2 : Below W.heap.size W W2) (hq : IntsAt W.heap.size W2.heap.size W2 q s.row) : QuW W0 W2 s fs v r q m1 W.heap.size W2.heap.size := by
  obtain ⟨a1, a2, a3, a4, a5⟩ := h.same (W' := W2) ((Same.below hB2).mono (Nat.zero_le _) h.2.2.2.1) hB2.size
  have := h.2.2.2.1
  exact ⟨⟨a1, a2, by omega, hB2.size, a5.mono (Nat.le_refl _) this⟩, hB2.size, Nat.le_refl _, hq⟩
/-- The rows of fields are slices of rows of their own. -/
def FldF (hi : Nat) (gs : List Value) : Prop := ∀ (j : Nat) (g : Value), gs[j]? = some g → ∃ f n : Nat, f < hi ∧ g = Value.slice (some ⟨f, 0, none⟩) n n
/-- The rows made: what the marker's heap is. -/
theorem ObW.objX {W0 W : World} {F : Nat → Prop} {s : StM} {ps fs : List Nat} {v : Value} {m1 B : Nat} (h : ObW W0 W s fs v m1) (ho : ObsAt W F ps fs s.obs) (hF : ∀ k, k < B → F k) (hB : B ≤ W0.heap.size) (hf : ∀ i, i < s.obs.length → fs.getD i 0 < W0.heap.size) :
    ∃ b gs, v = .slice (some ⟨b, 0, none⟩) (obsP s.obs).length (obsP s.obs).length ∧ ObjX B m1 W v (obsP s.obs) b (obsP s.obs).length gs ∧ FldF W0.heap.size gs := by
  obtain ⟨b, h1, h2, h3, h4, h5, h6⟩ := h
  have hix : ∀ j (hj : j < (therL s.obs).length), (therL s.obs)[j] < s.obs.length := fun j hj => by
    obtain ⟨o, ho1, _⟩ := therL_at hj
    exact (List.getElem?_eq_some_iff.1 ho1).1
  have hgs : ∀ j g, ((therL s.obs).map fun i => fldV fs i (obP s.obs i).flds.length)[j]? = some g → ∃ hj : j < (therL s.obs).length, g = fldV fs (therL s.obs)[j] (obP s.obs (therL s.obs)[j]).flds.length := fun j g hg => by
    obtain ⟨hj, e⟩ := List.getElem?_eq_some_iff.1 hg
    have hj2 : j < (therL s.obs).length := by simpa using hj
    exact ⟨hj2, by rw [← e]; simp⟩
  refine ⟨b, (therL s.obs).map fun i => fldV fs i (obP s.obs i).flds.length, h1, ⟨h1, ⟨by omega, h3, h4⟩, h5, fun j g hg => ?_, fun i j g g' hg hg' hne k hk => ?_, fun j hj => ?_⟩, fun j g hg => by
    obtain ⟨hj, rfl⟩ := hgs j g hg
    exact ⟨_, _, hf _ (hix j hj), rfl⟩⟩
  · obtain ⟨hj, rfl⟩ := hgs j g hg
    have := hf _ (hix j hj)
    simp only [fldV, Value.ownBlock, ne_eq, Option.some.injEq]
    omega
  · obtain ⟨hi, rfl⟩ := hgs i g hg
    obtain ⟨hj, rfl⟩ := hgs j g' hg'
    simp only [fldV, Value.ownBlock, Option.some.injEq] at hk ⊢
    intro q
    refine fs_ne ho (hix i hi) (hix j hj) (fun e => ?_) (by first | (injection q with q; exact hk.trans q.symm) | exact (by simpa using hk.trans q.symm))
    rcases Nat.lt_or_gt_of_ne hne with r | r
    · exact (List.pairwise_iff_getElem.1 (therL_nodup s.obs)) i j hi hj r e
    · exact (List.pairwise_iff_getElem.1 (therL_nodup s.obs)) j i hj hi r e.symm
  · have hj2 : j < (therL s.obs).length := by rw [← obsP_length]; exact hj
    obtain ⟨o, ho1, _⟩ := therL_at hj2
    have ha := ho.at_ _ _ ho1
    have hfl := hf _ (hix j hj2)
    have hfB : B ≤ fs.getD (therL s.obs)[j] 0 := by
      rcases Nat.lt_or_ge (fs.getD (therL s.obs)[j] 0) B with q | q
      · refine absurd (hF _ q) (ho.lo.2 _ ?_)
        rw [List.getD_eq_getElem?_getD, List.getElem?_eq_getElem (by rw [ho.lf]; exact hix j hj2)]
        exact List.getElem_mem _
      · exact q
    rw [obsP_get hj]
    refine ⟨fldV fs (therL s.obs)[j] (obP s.obs (therL s.obs)[j]).flds.length, by simp [hj2], h6 j hj2, ?_⟩
    rw [obP_some ho1]
    refine .inr ⟨_, _, rfl, hfB, by omega, ?_, fun i hi => ?_⟩
    · have := there_heap ha.row
      simpa [intsV] using this
    · exact cell_of ha.row (by simp [intsV, hi])
theorem objs_calls (w W0 W : World) (F : Nat → Prop) (M : Nat) (s : StM) (ps fs : List Nat) (ov tv : Value) (h : ImW W F M s ps fs ov tv) (hB : Below W0.heap.size W0 W) (va : Option Addr) (vc : Nat) (hown : W.ownsRow W0.heap.size 62 1 (.slice va (therL s.obs).length vc) (therL s.obs).length (ptrsP ps (therL s.obs))) (hl : s.obs.length ≤ 400) :
    Calls Try.prog 32 #[.slice va (therL s.obs).length vc, .func (.func 34) #[] #[]] W fun e w' => ∃ v, e = .returned v ∧ ObW W0 w' s fs v w'.heap.size ∧ Below W.heap.size W w' := by
  obtain ⟨ms, hms⟩ : ∃ ms, ms = (therL s.obs).map (mobV s.obs fs) := ⟨_, rfl⟩
  have hml : (therL s.obs).length = ms.length := by rw [hms]; simp
  have hge : ∀ j (h1 : j < ms.length) (h2 : j < (therL s.obs).length), ms[j] = mobV s.obs fs (therL s.obs)[j] := fun j h1 h2 => by subst hms; simp
  have hll := therL_len s.obs
  rw [hml]
  refine (changedObj_calls ms (fun j => ps.getD ((therL s.obs).getD j 0) 0) va vc W (fun j hj => ?_) (by omega)).mono ?_
  · have hj2 : j < (therL s.obs).length := by omega
    obtain ⟨g, c, e⟩ := own_some hown (by omega)
    injection e with e _ ec
    subst e
    subst ec
    have hlt := World.ownsRow.lt hown g rfl
    obtain ⟨o, ho1, _⟩ := therL_at hj2
    have ha := h.ob.at_ _ _ ho1
    have hgd : (therL s.obs).getD j 0 = (therL s.obs)[j] := by simp [hj2]
    refine ⟨g, 0, rfl, hlt.2, ?_, ?_⟩
    · rw [Nat.zero_add, World.ownsRow.cellAt hown j (by omega)]
      simp [ptrsP, hj2]
    · rw [hge j hj hj2]
      show W.heap[ps.getD ((therL s.obs).getD j 0) 0]? = _
      rw [hgd, ha.blk]
      simp [mobV, obP_some ho1]
  · rintro e w' ⟨rfl, h1, h2, h3, h4⟩
    have hol : (obsP s.obs).length = ms.length := by rw [obsP_length]; exact hml
    refine ⟨_, rfl, ⟨W.heap.size, by rw [hol], hB.size, h1, Nat.le_refl _, by rw [hol]; exact h2, fun j hj => ?_⟩, h4⟩
    have := h3 j (by omega)
    rwa [hge j (by omega) hj] at this
theorem ids_calls (W : World) (F : Nat → Prop) (M : Nat) (s : StM) (ps fs : List Nat) (ov tv : Value) (h : ImW W F M s ps fs ov tv) (hi : InvM s) (hl : s.obs.length ≤ 400) :
    Calls Try.prog 36 #[tv, .func (.func 37) #[] #[]] W fun e w' => ∃ u, e = .returned u ∧ IntsAt W.heap.size w'.heap.size w' u s.row ∧ Below W.heap.size W w' := by
  have hrow := hi.rowlen
  obtain ⟨va, vc, hf⟩ := h.ro.form
  have hlr : (rowP ps s.row).length = s.row.length := by simp [rowP]
  rw [hlr] at hf
  have hq := h.ro
  rw [hf] at hq ⊢
  refine (changedId_calls s.row (fun j => ps.getD ((s.row.getD j 0).toNat - 1) 0) va vc W (fun j hj => ?_) (by omega)).mono ?_
  · rcases hq with ⟨q1, q2⟩ | ⟨b, o, c, q1, q2⟩
    · rw [← hlr, q2] at hj
      simp at hj
    · injection q1 with q1 _ _
      subst q1
      obtain ⟨x, hx, _⟩ := (hi.gr (s.row[j])).1 (List.getElem_mem hj)
      have ha := h.ob.get hx
      have hgd : s.row.getD j 0 = s.row[j] := by simp [hj]
      refine ⟨b, o, rfl, q2.hi, ?_, ?_, ?_⟩
      · show ps.getD ((s.row.getD j 0).toNat - 1) 0 < _
        rw [hgd]
        exact lt_of ha.blk
      · have := q2.cells j (by rw [hlr]; exact hj)
        rw [this]
        simp [rowP, hj]
      · show W.cell? ⟨ps.getD ((s.row.getD j 0).toNat - 1) 0, 0, none⟩ = _
        rw [hgd]
        exact cell_of ha.blk rfl
  · rintro e w' ⟨u, he, hu, hb⟩
    exact ⟨u, he, hu.ints, hb⟩
set_option maxRecDepth 100000 in
set_option maxHeartbeats 1000000 in
theorem heap_calls (w : World) (F : Nat → Prop) (M : Nat) (s : StM) (ps fs : List Nat) (ov tv : Value) (B : Nat) (h : ImW w F M s ps fs ov tv) (hi : InvM s) (hl : s.obs.length ≤ 400) (hF : ∀ k, k < B → F k) :
    Calls Try.prog 17 #[.pointer (some ⟨M, 0, none⟩)] w fun e w' => ∃ r q b gs m1 m2 m3, e = .returned (.agg #[.slice (some ⟨b, 0, none⟩) (obsP s.obs).length (obsP s.obs).length, r, .bool s.cyc, q]) ∧ HpX B m1 m2 m3 w' (.slice (some ⟨b, 0, none⟩) (obsP s.obs).length (obsP s.obs).length) r q (obsP s.obs) s.roots s.row b (obsP s.obs).length gs ∧ FldF w'.heap.size gs ∧ Below w.heap.size w w' := by
  have hBw : B ≤ w.heap.size := by
    rcases Nat.eq_zero_or_pos B with q | q
    · omega
    · have := h.lo.2 (B - 1) (hF _ (by omega))
      omega
  have hfs : ∀ i, i < s.obs.length → fs.getD i 0 < w.heap.size := fun i hi => lt_of (h.ob.at_ i _ (List.getElem?_eq_getElem hi)).row
  obtain ⟨W0, hW0⟩ : ∃ W0, W0 = w.alloc (.cells #[.slice none 0 0, .slice none 0 0, .bool false, .slice none 0 0] 34) := ⟨_, rfl⟩
  have hB0 : Below w.heap.size w W0 := by rw [hW0]; exact below_1 _ _
  have hs0 : W0.heap.size = w.heap.size + 1 := by rw [hW0]; exact World.size_alloc _ _
  have hbx : W0.heap[w.heap.size]? = some (.cells #[.slice none 0 0, .slice none 0 0, .bool false, .slice none 0 0] 34 (0, 0)) := by rw [hW0]; exact heap_alloc_new w _
  have hIm : Hid (∀ W, Below W0.heap.size W0 W → ImW W F M s ps fs ov tv) := fun W hW => h.below (below_on2 hB0 hW)
  have hth : Hid (∀ W, Below W0.heap.size W0 W → Calls Try.prog 33 #[.pointer (some ⟨M, 0, none⟩)] W fun e w' => ∃ v, e = .returned v ∧ w'.ownsRow W0.heap.size 62 1 v (therL s.obs).length (ptrsP ps (therL s.obs)) ∧ Below W.heap.size W w') := fun W hW => (there_calls W F M s ps fs ov tv (hIm.out W hW) hl).mono fun e w' ⟨v, q1, q2, q3⟩ => ⟨v, q1, own_mono q2 hW.size, q3⟩
  have hob : Hid (∀ W, Below W0.heap.size W0 W → ∀ va vc, W.ownsRow W0.heap.size 62 1 (.slice va (therL s.obs).length vc) (therL s.obs).length (ptrsP ps (therL s.obs)) → Calls Try.prog 32 #[.slice va (therL s.obs).length vc, .func (.func 34) #[] #[]] W fun e w' => ∃ v, e = .returned v ∧ ObW W0 w' s fs v w'.heap.size ∧ Below W.heap.size W w') := fun W hW va vc hown => objs_calls w W0 W F M s ps fs ov tv (hIm.out W hW) hW va vc hown hl
  have hcl : Hid (∀ W, Below W0.heap.size W0 W → Calls Try.prog 35 #[.slice (some ⟨M, 2, none⟩) 8 8] W fun e w' => ∃ u, e = .returned u ∧ OutAt W.heap.size w' u s.roots ∧ Below W.heap.size W w') := fun W hW => by
    have hI := hIm.out W hW
    have := clone_calls s.roots M 2 8 W (fun j u hu => by
      obtain ⟨hj, e⟩ := List.getElem?_eq_some_iff.1 hu
      have hj8 : j < 8 := by simpa [intsV, hI.rl] using hj
      rw [hI.mode.2.2.2.2.1 j hj8, ← e]
      simp [intsV]) (lt_of hI.blk) (by rw [hI.rl]; omega)
    rw [hI.rl] at this
    exact this
  have hid : Hid (∀ W, Below W0.heap.size W0 W → Calls Try.prog 36 #[tv, .func (.func 37) #[] #[]] W fun e w' => ∃ u, e = .returned u ∧ IntsAt W.heap.size w'.heap.size w' u s.row ∧ Below W.heap.size W w') := fun W hW => ids_calls W F M s ps fs ov tv (hIm.out W hW) hi hl
  have hce : Hid (∀ W, Below W0.heap.size W0 W → W.cell? ⟨M, 10, none⟩ = some (.bool s.cyc) ∧ W.cell? ⟨M, 11, none⟩ = some tv) := fun W hW => ⟨(hIm.out W hW).mode.2.2.1, (hIm.out W hW).mode.2.2.2.1⟩
  have hfin : Hid (∀ (W W' : World) (v r q : Value) (m1 m2 m3 : Nat), Below W0.heap.size W0 W → W'.heap.size = W.heap.size → W'.os = W.os → W'.tape = W.tape → W'.output = W.output → (∀ k, k ≠ w.heap.size → W'.heap[k]? = W.heap[k]?) → QuW W0 W s fs v r q m1 m2 m3 → ∃ b gs, v = .slice (some ⟨b, 0, none⟩) (obsP s.obs).length (obsP s.obs).length ∧ HpX B m1 m2 m3 W' v r q (obsP s.obs) s.roots s.row b (obsP s.obs).length gs ∧ FldF W'.heap.size gs ∧ Below w.heap.size w W') := fun W W' v r q m1 m2 m3 hb z1 z2 z3 z4 z5 hQ => by
    have hbw := below_on2 hB0 hb
    have hbw' : Below w.heap.size w W' := ⟨z2.trans hbw.os, z3.trans hbw.tape, z4.trans hbw.output, by rw [z1]; exact hbw.size, fun k hk => (z5 k (by omega)).trans (hbw.block k hk)⟩
    have hQ' : QuW W0 W' s fs v r q m1 m2 m3 := hQ.same (fun p hp _ => ⟨World.cell?_of_block (w := W) (z5 p.block (by omega)), World.frozen?_of_block (w := W) (z5 p.block (by omega))⟩) (by omega)
    obtain ⟨⟨x1, x2, x3, x4, x5⟩, y2, y3, y4⟩ := hQ'
    obtain ⟨b, gs, e1, e2, e3⟩ := x1.objX (h.below hbw').ob hF (by omega) (fun i hi => by have := hfs i hi; omega)
    exact ⟨b, gs, e1, ⟨⟨by omega, x3, y2, y3⟩, e2, x5, y4⟩, (fun j g hg => by
      obtain ⟨f, n, h1, h2⟩ := e3 j g hg
      exact ⟨f, n, by have := hb.size; omega, h2⟩), hbw'⟩
  have hrf : ∀ r, IntsAt 0 0 w r s.roots → True := fun _ _ => trivial
  obtain ⟨tva, tvc, htv⟩ := h.ro.form
  clear hrf h hi hfs hB0
  subst htv
  go_enter Try.func17, Try.ntmps17
  go_upto_region 1 with fail
  rw [← hW0]
  generalize hbe : w.heap.size = bx at *
  have hbeH : Hid (w.heap.size = bx) := hbe
  clear hW0 hbe
  refine wp_region_chain (by kernel_rfl) (fun vs => { tmps := #[.pointer (some ⟨M, 0, none⟩), undef, .pointer (some ⟨bx, 0, none⟩), vs 0, vs 1, vs 2, vs 3, vs 4, vs 5, vs 6, vs 7, vs 8, vs 9, vs 10, vs 11, vs 12, vs 13, vs 14, vs 15, vs 16, vs 17, vs 18], defers := [] }) [1, 2, 7, 17, 18] (lv1 [.pointer (some ⟨M, 0, none⟩), undef, undef, .pointer (some ⟨M, 0, none⟩), .pointer (some ⟨M, 0, none⟩), .pointer (some ⟨M, 2, none⟩), .slice (some ⟨M, 2, none⟩) 8 8, undef, .pointer (some ⟨M, 0, none⟩), .pointer (some ⟨M, 0, none⟩), .pointer (some ⟨M, 10, none⟩), .bool s.cyc, .pointer (some ⟨M, 0, none⟩), .pointer (some ⟨M, 0, none⟩), .pointer (some ⟨M, 11, none⟩), .pointer (some ⟨M, 11, none⟩), .slice tva (rowP ps s.row).length tvc, undef, undef]) (hpR W0 s ps fs) (fun i => undef) rfl (by kernel_rfl) ?_ (hpR_loc _ _ _ _) (allAt_all ⟨?_, ?_, ?_, ?_, ?_, ?_, ?_, ?_, ?_, ?_, ?_, ?_, ?_, ?_, ?_, ?_, ?_, ?_, ?_, ?_, trivial⟩) ?_ ?_
  case refine_1 => exact Below.drew (Below.refl _ _)
  case refine_2 =>
    intro _ _ kk vs W hR hv
    have hB := hpR_below hR
    clear hv hR
    go_wp2
    exact PurePost.mk' (.pointer (some ⟨M, 0, none⟩)) (by rfl) rfl
  case refine_3 => exact fun h => absurd (by decide) h
  case refine_4 => exact fun h => absurd (by decide) h
  case refine_5 =>
    intro _ _ kk vs W hR hv
    have hB := hpR_below hR
    clear hv hR
    go_wp2
    exact PurePost.mk' (.pointer (some ⟨M, 0, none⟩)) (by rfl) rfl
  case refine_6 =>
    intro _ _ kk vs W hR hv
    have hB := hpR_below hR
    have e3 : vs 3 = .pointer (some ⟨M, 0, none⟩) := hv ⟨3, .data⟩ (by simp) rfl (by decide)
    clear hv hR
    simp only [e3]
    go_wp2
    exact PurePost.mk' (.pointer (some ⟨M, 0, none⟩)) (by show _ = ({ tmps := #[.pointer (some ⟨M, 0, none⟩), undef, .pointer (some ⟨bx, 0, none⟩), vs 0, vs 1, vs 2, vs 3, .pointer (some ⟨M, 0, none⟩), vs 5, vs 6, vs 7, vs 8, vs 9, vs 10, vs 11, vs 12, vs 13, vs 14, vs 15, vs 16, vs 17, vs 18], defers := [] } : Act); rw [e3]) rfl
  case refine_7 =>
    intro _ _ kk vs W hR hv
    have hB := hpR_below hR
    have e4 : vs 4 = .pointer (some ⟨M, 0, none⟩) := hv ⟨4, .data⟩ (by simp) rfl (by decide)
    clear hv hR
    simp only [e4]
    go_wp2
    exact PurePost.mk' (.pointer (some ⟨M, 2, none⟩)) (by show _ = ({ tmps := #[.pointer (some ⟨M, 0, none⟩), undef, .pointer (some ⟨bx, 0, none⟩), vs 0, vs 1, vs 2, vs 3, vs 4, .pointer (some ⟨M, 2, none⟩), vs 6, vs 7, vs 8, vs 9, vs 10, vs 11, vs 12, vs 13, vs 14, vs 15, vs 16, vs 17, vs 18], defers := [] } : Act); rw [e4]) rfl
  case refine_8 =>
    intro _ _ kk vs W hR hv
    have hB := hpR_below hR
    have e5 : vs 5 = .pointer (some ⟨M, 2, none⟩) := hv ⟨5, .data⟩ (by simp) rfl (by decide)
    clear hv hR
    simp only [e5]
    go_wp2
    exact PurePost.mk' (.slice (some ⟨M, 2, none⟩) 8 8) (by first | (rw [← e5]; rfl) | (simp [upd, e5])) rfl
  case refine_9 => exact fun h => absurd (by decide) h
  case refine_10 =>
    intro _ _ kk vs W hR hv
    have hB := hpR_below hR
    clear hv hR
    go_wp2
    exact PurePost.mk' (.pointer (some ⟨M, 0, none⟩)) (by rfl) rfl
  case refine_11 =>
    intro _ _ kk vs W hR hv
    have hB := hpR_below hR
    have e8 : vs 8 = .pointer (some ⟨M, 0, none⟩) := hv ⟨8, .data⟩ (by simp) rfl (by decide)
    clear hv hR
    simp only [e8]
    go_wp2
    exact PurePost.mk' (.pointer (some ⟨M, 0, none⟩)) (by show _ = ({ tmps := #[.pointer (some ⟨M, 0, none⟩), undef, .pointer (some ⟨bx, 0, none⟩), vs 0, vs 1, vs 2, vs 3, vs 4, vs 5, vs 6, vs 7, vs 8, .pointer (some ⟨M, 0, none⟩), vs 10, vs 11, vs 12, vs 13, vs 14, vs 15, vs 16, vs 17, vs 18], defers := [] } : Act); rw [e8]) rfl
  case refine_12 =>
    intro _ _ kk vs W hR hv
    have hB := hpR_below hR
    have e9 : vs 9 = .pointer (some ⟨M, 0, none⟩) := hv ⟨9, .data⟩ (by simp) rfl (by decide)
    clear hv hR
    simp only [e9]
    go_wp2
    exact PurePost.mk' (.pointer (some ⟨M, 10, none⟩)) (by show _ = ({ tmps := #[.pointer (some ⟨M, 0, none⟩), undef, .pointer (some ⟨bx, 0, none⟩), vs 0, vs 1, vs 2, vs 3, vs 4, vs 5, vs 6, vs 7, vs 8, vs 9, .pointer (some ⟨M, 10, none⟩), vs 11, vs 12, vs 13, vs 14, vs 15, vs 16, vs 17, vs 18], defers := [] } : Act); rw [e9]) rfl
  case refine_13 =>
    intro _ _ kk vs W hR hv
    have hB := hpR_below hR
    have e10 : vs 10 = .pointer (some ⟨M, 10, none⟩) := hv ⟨10, .data⟩ (by simp) rfl (by decide)
    obtain ⟨q10, q11⟩ := hce.out W hB
    clear hv hR
    simp only [e10]
    go_wp2
    exact PurePost.mk' (.bool s.cyc) (by first | (rw [← e10]; rfl) | (simp [upd, e10])) rfl
  case refine_14 =>
    intro _ _ kk vs W hR hv
    have hB := hpR_below hR
    clear hv hR
    go_wp2
    exact PurePost.mk' (.pointer (some ⟨M, 0, none⟩)) (by rfl) rfl
  case refine_15 =>
    intro _ _ kk vs W hR hv
    have hB := hpR_below hR
    have e12 : vs 12 = .pointer (some ⟨M, 0, none⟩) := hv ⟨12, .data⟩ (by simp) rfl (by decide)
    clear hv hR
    simp only [e12]
    go_wp2
    exact PurePost.mk' (.pointer (some ⟨M, 0, none⟩)) (by show _ = ({ tmps := #[.pointer (some ⟨M, 0, none⟩), undef, .pointer (some ⟨bx, 0, none⟩), vs 0, vs 1, vs 2, vs 3, vs 4, vs 5, vs 6, vs 7, vs 8, vs 9, vs 10, vs 11, vs 12, .pointer (some ⟨M, 0, none⟩), vs 14, vs 15, vs 16, vs 17, vs 18], defers := [] } : Act); rw [e12]) rfl
  case refine_16 =>
    intro _ _ kk vs W hR hv
    have hB := hpR_below hR
    have e13 : vs 13 = .pointer (some ⟨M, 0, none⟩) := hv ⟨13, .data⟩ (by simp) rfl (by decide)
    clear hv hR
    simp only [e13]
    go_wp2
    exact PurePost.mk' (.pointer (some ⟨M, 11, none⟩)) (by show _ = ({ tmps := #[.pointer (some ⟨M, 0, none⟩), undef, .pointer (some ⟨bx, 0, none⟩), vs 0, vs 1, vs 2, vs 3, vs 4, vs 5, vs 6, vs 7, vs 8, vs 9, vs 10, vs 11, vs 12, vs 13, .pointer (some ⟨M, 11, none⟩), vs 15, vs 16, vs 17, vs 18], defers := [] } : Act); rw [e13]) rfl
  case refine_17 =>
    intro _ _ kk vs W hR hv
    have hB := hpR_below hR
    have e14 : vs 14 = .pointer (some ⟨M, 11, none⟩) := hv ⟨14, .data⟩ (by simp) rfl (by decide)
    clear hv hR
    simp only [e14]
    go_wp2
    exact PurePost.mk' (.pointer (some ⟨M, 11, none⟩)) (by show _ = ({ tmps := #[.pointer (some ⟨M, 0, none⟩), undef, .pointer (some ⟨bx, 0, none⟩), vs 0, vs 1, vs 2, vs 3, vs 4, vs 5, vs 6, vs 7, vs 8, vs 9, vs 10, vs 11, vs 12, vs 13, vs 14, .pointer (some ⟨M, 11, none⟩), vs 16, vs 17, vs 18], defers := [] } : Act); rw [e14]) rfl
  case refine_18 =>
    intro _ _ kk vs W hR hv
    have hB := hpR_below hR
    have e15 : vs 15 = .pointer (some ⟨M, 11, none⟩) := hv ⟨15, .data⟩ (by simp) rfl (by decide)
    obtain ⟨q10, q11⟩ := hce.out W hB
    clear hv hR
    simp only [e15]
    go_wp2
    exact PurePost.mk' (.slice tva (rowP ps s.row).length tvc) (by first | (rw [← e15]; rfl) | (simp [upd, e15])) rfl
  case refine_19 => exact fun h => absurd (by decide) h
  case refine_20 => exact fun h => absurd (by decide) h
  case refine_21 => exact fun _ h => absurd h (by simp)
  case refine_22 =>
    intro jj q o hq ho vs W hR hv
    match jj, hq with
    | 0, hq =>
      obtain rfl : q = 1 := by simpa using hq.symm
      obtain rfl := Option.some.inj ho
      have hB : Below W0.heap.size W0 W := hR
      have e0 : vs 0 = .pointer (some ⟨M, 0, none⟩) := hv ⟨0, .data⟩ (by simp) rfl (by decide)
      have hq : Hid _ := hth.out W hB
      clear hv hR
      simp only [e0]
      go_wp2_with (go_at_call 33; refine (show Calls _ _ _ _ _ from hq.out).mono ?_; rintro e W2 ⟨v, rfl, h2, hB2⟩)
      exact ChainPost.mk' v (by first | (rw [← e0]; rfl) | (simp [upd, e0])) (hpR_1 (below_on2 hB hB2) h2)
    | 1, hq =>
      obtain rfl : q = 2 := by simpa using hq.symm
      obtain rfl := Option.some.inj ho
      obtain ⟨hB, hown⟩ := (show _ ∧ _ from hR)
      have hown1 := hown
      obtain ⟨va, vc, e1⟩ := own_slice hown
      rw [e1] at hown1
      have hq : Hid _ := hob.out W hB va vc hown1
      clear hv hR hown hown1
      simp only [e1]
      go_wp2_with (go_at_call 32; refine (show Calls _ _ _ _ _ from hq.out).mono ?_; rintro e W2 ⟨v, rfl, h2, hB2⟩)
      exact ChainPost.mk' v (by first | (rw [← e1]; rfl) | (simp [upd, e1])) (hpR_2 (below_on2 hB hB2) h2)
    | 2, hq =>
      obtain rfl : q = 7 := by simpa using hq.symm
      obtain rfl := Option.some.inj ho
      obtain ⟨hB, m1, hO⟩ := (show _ ∧ ∃ _, _ from hR)
      have e6 : vs 6 = .slice (some ⟨M, 2, none⟩) 8 8 := hv ⟨6, .data⟩ (by simp) rfl (by decide)
      have hq : Hid _ := hcl.out W hB
      clear hv hR
      have hOH : Hid _ := hO
      clear hO
      simp only [e6]
      go_wp2_with (go_at_call 35; refine (show Calls _ _ _ _ _ from hq.out).mono ?_; rintro e W2 ⟨v, rfl, h2, hB2⟩)
      exact ChainPost.mk' v (by first | (rw [← e6]; rfl) | (simp [upd, e6])) (hpR_3 (below_on2 hB hB2) (RtW.mk1 hOH.out hB hB2 (out_ints h2)))
    | 3, hq =>
      obtain rfl : q = 17 := by simpa using hq.symm
      obtain rfl := Option.some.inj ho
      obtain ⟨hB, m1, m2, hO⟩ := (show _ ∧ ∃ _ _, _ from hR)
      have e16 : vs 16 = .slice tva (rowP ps s.row).length tvc := hv ⟨16, .data⟩ (by simp) rfl (by decide)
      have hq : Hid _ := hid.out W hB
      clear hv hR
      have hOH : Hid _ := hO
      clear hO
      simp only [e16]
      go_wp2_with (go_at_call 36; refine (show Calls _ _ _ _ _ from hq.out).mono ?_; rintro e W2 ⟨v, rfl, h2, hB2⟩)
      exact ChainPost.mk' v (by first | (rw [← e16]; rfl) | (simp [upd, e16])) (hpR_4 (below_on2 hB hB2) (QuW.mk1 hOH.out hB2 h2))
    | 4, hq =>
      obtain rfl : q = 18 := by simpa using hq.symm
      obtain rfl := Option.some.inj ho
      obtain ⟨hB, m1, m2, m3, hO⟩ := (show _ ∧ ∃ _ _ _, _ from hR)
      have e11 : vs 11 = .bool s.cyc := hv ⟨11, .data⟩ (by simp) rfl (by decide)
      have hOH : Hid _ := hO
      obtain ⟨ba, e2⟩ := hO.1.1.form
      obtain ⟨ra, rc, e7⟩ := hO.1.2.2.2.2.form
      obtain ⟨qa, qc, e17⟩ := hO.2.2.2.form
      clear hv hR hO
      simp only [e2, e7, e11, e17]
      go_wp2
      exact ChainPost.mk' (.agg #[.slice (some ⟨ba, 0, none⟩) (obsP s.obs).length (obsP s.obs).length, .slice ra s.roots.length rc, .bool s.cyc, .slice qa s.row.length qc]) (by first | (rw [← e2, ← e7, ← e11, ← e17]; rfl) | (simp [upd, e2, e7, e11, e17])) (hpR_5 hB hOH.out (by rw [e2, e7, e17]))
    | jj + 5, hq => simp at hq
  case refine_23 =>
    intro o ho vs W hR hv
    obtain rfl := Option.some.inj ho
    clear ho
    have e0 : vs 0 = .pointer (some ⟨M, 0, none⟩) := hv 0 (by simp) (by decide)
    have e3 : vs 3 = .pointer (some ⟨M, 0, none⟩) := hv 3 (by simp) (by decide)
    have e4 : vs 4 = .pointer (some ⟨M, 0, none⟩) := hv 4 (by simp) (by decide)
    have e5 : vs 5 = .pointer (some ⟨M, 2, none⟩) := hv 5 (by simp) (by decide)
    have e6 : vs 6 = .slice (some ⟨M, 2, none⟩) 8 8 := hv 6 (by simp) (by decide)
    have e8 : vs 8 = .pointer (some ⟨M, 0, none⟩) := hv 8 (by simp) (by decide)
    have e9 : vs 9 = .pointer (some ⟨M, 0, none⟩) := hv 9 (by simp) (by decide)
    have e10 : vs 10 = .pointer (some ⟨M, 10, none⟩) := hv 10 (by simp) (by decide)
    have e11 : vs 11 = .bool s.cyc := hv 11 (by simp) (by decide)
    have e12 : vs 12 = .pointer (some ⟨M, 0, none⟩) := hv 12 (by simp) (by decide)
    have e13 : vs 13 = .pointer (some ⟨M, 0, none⟩) := hv 13 (by simp) (by decide)
    have e14 : vs 14 = .pointer (some ⟨M, 11, none⟩) := hv 14 (by simp) (by decide)
    have e15 : vs 15 = .pointer (some ⟨M, 11, none⟩) := hv 15 (by simp) (by decide)
    have e16 : vs 16 = .slice tva (rowP ps s.row).length tvc := hv 16 (by simp) (by decide)
    obtain ⟨hB, ⟨m1, m2, m3, hO⟩, e18⟩ := (show _ ∧ _ ∧ _ from hR)
    have hOH : Hid _ := hO
    obtain ⟨ba, e2⟩ := hO.1.1.form
    obtain ⟨ra, rc, e7⟩ := hO.1.2.2.2.2.form
    obtain ⟨qa, qc, e17⟩ := hO.2.2.2.form
    rw [e2, e7, e17] at e18 hOH
    have hb1 : W.heap[bx]? = some (.cells #[.slice none 0 0, .slice none 0 0, .bool false, .slice none 0 0] 34 (0, 0)) := (hB.block bx (by omega)).trans hbx
    have hF2 : Hid _ := hfin.out W (W.setRow bx #[.slice (some ⟨ba, 0, none⟩) (obsP s.obs).length (obsP s.obs).length, .slice ra s.roots.length rc, .bool s.cyc, .slice qa s.row.length qc]) _ _ _ m1 m2 m3 hB (setRow_size _ _ _) rfl rfl rfl (fun k hk => setRow_other _ _ _ _ hk) hOH.out
    clear hv hR hO hOH hB hth hob hcl hid hce hIm hfin
    simp only [e0, e3, e4, e5, e6, e8, e9, e10, e11, e12, e13, e14, e15, e16, e2, e7, e17, e18]
    clear e0 e3 e4 e5 e6 e8 e9 e10 e11 e12 e13 e14 e15 e16 e2 e7 e17 e18
    go_wp2_with (refine wpList_store_row rfl 34 _ _ rfl bx #[.slice (some ⟨ba, 0, none⟩) (obsP s.obs).length (obsP s.obs).length, .slice ra s.roots.length rc, .bool s.cyc, .slice qa s.row.length qc] rfl rfl 34 _ hb1 (by kernel_rfl) rfl (all_oneCell_toArray (cs := [.slice (some ⟨ba, 0, none⟩) (obsP s.obs).length (obsP s.obs).length, .slice ra s.roots.length rc, .bool s.cyc, .slice qa s.row.length qc]) (by simp [Value.oneCell'])) ?_)
    (try simp only [Exit.inBlock, Exit.then])
    refine bodyPost_ret (v := .agg #[.slice (some ⟨ba, 0, none⟩) (obsP s.obs).length (obsP s.obs).length, .slice ra s.roots.length rc, .bool s.cyc, .slice qa s.row.length qc]) (results_cell_row rfl _ _ bx 34 #[.slice (some ⟨ba, 0, none⟩) (obsP s.obs).length (obsP s.obs).length, .slice ra s.roots.length rc, .bool s.cyc, .slice qa s.row.length qc] (0, 0) _ rfl (setRow_heap _ _ _ _ _ _ hb1) Try.underlying34 rfl (by kernel_rfl)) rfl ?_
    obtain ⟨b, gs, q1, q2, q4, q3⟩ := hF2.out
    injection q1 with q1 _ _
    injection q1 with q1
    injection q1 with q1 _ _
    subst q1
    exact ⟨_, _, _, gs, m1, m2, m3, rfl, q2, q4, by rw [hbeH.out]; exact q3⟩
end Go.Proofs.Ytchcdlelaklnnaa
