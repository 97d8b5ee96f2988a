/- Marking meanwhile: what holds in every run. -/
import Derived.Test.YtjlaofoaglifpaaMkG
namespace Go.Proofs.Ytjlaofoaglifpaa
set_option linter.unusedVariables false
structure GoodM (s : StM) : Prop where
  inv : InvM s
  len : s.obs.length ≤ 400
  fl : ∀ o ∈ s.obs, o.flds.length ≤ 6
  md : s.mode = 1 ∨ s.mode = 2
  j : s.cyc = true → s.mode = 1 → JM s
  k : s.cyc = true → s.mode = 2 → KM s
theorem WP.obs {s t : StM} (e : t.obs = s.obs) {z : Int} (h : WP s z) : WP t z := by
  induction h with
  | grey h1 h2 => exact .grey (by rw [e]; exact h1) h2
  | white _ h2 h3 h4 h5 ih => exact .white ih (by rw [e]; exact h2) h3 (by rw [e]; exact h4) h5
theorem KM.obs {s t : StM} (e : t.obs = s.obs) (h : KM s) : KM t := fun y x hx hc f hf o ho => h y x (by rw [← e]; exact hx) hc f hf o (by rw [← e]; exact ho)
theorem reach_setR {s : StM} {n z : Int} (hz : ∀ o, getM s.obs z = some o → ReachM s z) {y : Int} (h : ReachM (setR s n z) y) : ReachM s y := by
  induction h with
  | root h1 h2 =>
    rcases List.mem_or_eq_of_mem_set h1 with q | rfl
    · exact .root q h2
    · exact hz _ h2
  | step _ h2 h3 h4 ih => exact .step ih h2 h3 h4
theorem GoodM.setR {s : StM} (h : GoodM s) {n z : Int} (hz : ∀ o, getM s.obs z = some o → ReachM s z) (hr : 0 ≤ z ∧ z ≤ (s.obs.length : Int)) : GoodM (setR s n z) :=
  ⟨h.inv.setR n z hr, h.len, h.fl, h.md, fun hc hm y hy o ho hcol => WP.obs (s := s) (t := ({ s with roots := s.roots.set n.toNat z } : StM)) rfl (h.j hc hm y (reach_setR hz hy) o ho hcol), fun hc hm => KM.obs (s := s) (t := ({ s with roots := s.roots.set n.toNat z } : StM)) rfl (h.k hc hm)⟩
theorem rootM_mem {s : StM} (h : InvM s) {n : Int} (hn : isR n = true) : rootM s n ∈ s.roots := by
  obtain ⟨h1, h2⟩ := isR_iff.1 hn
  have hl : n.toNat < s.roots.length := by rw [h.rl]; omega
  unfold rootM
  rw [List.getD_eq_getElem?_getD, List.getElem?_eq_getElem hl]
  exact List.getElem_mem hl
theorem getM_zero (obs : List ObM) : getM obs 0 = none := by simp [getM]
theorem fieldM_mem {s : StM} {z c : Int} {o : ObM} (ho : getM s.obs z = some o) (hc : 0 ≤ c ∧ c < (o.flds.length : Int)) : fieldM s z c ∈ o.flds := by
  have hl : c.toNat < o.flds.length := by omega
  unfold fieldM
  rw [fldsM_some ho, List.getD_eq_getElem?_getD, List.getElem?_eq_getElem hl]
  exact List.getElem_mem hl
theorem GoodM.make {s : StM} (h : GoodM s) {n k : Int} (hl : (s.obs.length : Int) < 400) (hk : k ≤ 6) : GoodM (makeM s n k) := by
  have hget : ∀ z, getM (makeM s n k).obs z = if z = (s.obs.length : Int) + 1 then some ⟨List.replicate k.toNat 0, if s.cyc then 3 else 0, true⟩ else getM s.obs z := fun z => getM_app rfl z
  have hold : ∀ z o, getM s.obs z = some o → getM (makeM s n k).obs z = some o := fun z o ho => by
    rw [hget, if_neg (by have := (getM_le ho).2; omega)]
    exact ho
  have hof : ∀ z o, z ≠ (s.obs.length : Int) + 1 → getM (makeM s n k).obs z = some o → getM s.obs z = some o := fun z o hz ho => by
    rw [hget, if_neg hz] at ho
    exact ho
  have hre : ∀ y, ReachM (makeM s n k) y → y = (s.obs.length : Int) + 1 ∨ ReachM s y := fun y hy => by
    induction hy with
    | @root y o h1 h2 =>
      rcases List.mem_or_eq_of_mem_set h1 with q | rfl
      · by_cases e : y = (s.obs.length : Int) + 1
        · exact .inl e
        · exact .inr (.root q (hof y o e h2))
      · exact .inl rfl
    | @step y u x o _ h2 h3 h4 ih =>
      by_cases e : u = (s.obs.length : Int) + 1
      · exact .inl e
      · rcases ih with rfl | ih
        · rw [hget, if_pos rfl] at h2
          injection h2 with h2
          subst h2
          have := (List.mem_replicate.1 h3).2
          subst this
          rw [getM_zero] at h4
          cases h4
        · by_cases e2 : y = (s.obs.length : Int) + 1
          · obtain ⟨q, hq⟩ := ih.there
            have := (getM_le hq).2
            omega
          · exact .inr (.step ih (hof y x e2 h2) h3 (hof u o e h4))
  have hwp : ∀ y, WP s y → WP (makeM s n k) y := fun y hy => by
    induction hy with
    | grey h1 h2 => exact .grey (hold _ _ h1) h2
    | white _ h2 h3 h4 h5 ih => exact .white ih (hold _ _ h2) h3 (hold _ _ h4) h5
  refine ⟨h.inv.make n k, by simp [makeM]; omega, fun o ho => ?_, h.md, fun hc hm y hy o ho hcol => ?_, fun hc hm y x hx hcol f hf o ho => ?_⟩
  · rcases List.mem_append.1 ho with q | q
    · exact h.fl o q
    · have e : o = ⟨List.replicate k.toNat 0, if s.cyc then 3 else 0, true⟩ := by simpa using q
      subst e
      simp
      omega
  · have hc' : s.cyc = true := hc
    by_cases e : y = (s.obs.length : Int) + 1
    · rw [hget, if_pos e] at ho
      injection ho with ho
      subst ho
      simp [hc'] at hcol
    · rcases hre y hy with q | q
      · exact absurd q e
      · exact hwp y (h.j hc' hm y q o (hof y o e ho) hcol)
  · have hc' : s.cyc = true := hc
    by_cases e : y = (s.obs.length : Int) + 1
    · rw [hget, if_pos e] at hx
      injection hx with hx
      subst hx
      have := (List.mem_replicate.1 hf).2
      subst this
      rw [getM_zero] at ho
      cases ho
    · have hx := hof y x e hx
      have hfr := h.inv.fr x (getM_mem hx) f hf
      exact h.k hc' hm y x hx hcol f hf o (hof f o (by omega) ho)
theorem bar_sh (s : StM) (z c v : Int) : ShM s (barM s z c v) := by
  unfold barM
  split
  · exact ShM.shade s _
  · split
    · exact ShM.shade s _
    · exact ShM.refl s
theorem shade_dark (s : StM) (z : Int) : ∀ o, getM (s.shade z).obs z = some o → o.col ≠ 1 := fun o ho => shades_done s [z] z (by simp) o ho
theorem GoodM.put {s : StM} (h : GoodM s) {z c v : Int} {o0 : ObM} (hz : ReachM s z) (ho0 : getM s.obs z = some o0) (hc0 : 0 ≤ c ∧ c < (o0.flds.length : Int)) (hv : ∀ o, getM s.obs v = some o → ReachM s v) (hr : 0 ≤ v ∧ v ≤ (s.obs.length : Int)) : GoodM (putM s z c v) := by
  have hz1 := (getM_le ho0).1
  have hsh := bar_sh s z c v
  have hfr := bar_frame s z c v
  have hinv := h.inv.put (c := c) hz1 hr
  have hd1 : s.mode = 1 → ∀ o, getM (barM s z c v).obs (fieldM s z c) = some o → o.col ≠ 1 := fun hm o ho => by
    unfold barM at ho
    rw [if_pos hm] at ho
    exact shade_dark s _ o ho
  have hd2 : s.mode = 2 → ∀ x, getM (barM s z c v).obs z = some x → x.col = 3 → ∀ o, getM (barM s z c v).obs v = some o → o.col ≠ 1 := fun hm x hx hcol o ho => by
    unfold barM at hx ho
    rw [if_neg (by omega)] at hx ho
    by_cases q : colM s z = 3
    · rw [if_pos q] at ho
      exact shade_dark s _ o ho
    · rw [if_neg q] at hx
      exact absurd (by simp [colM, hx, hcol]) q
  have hjt : s.cyc = true → s.mode = 1 → JM (barM s z c v) := fun hc hm => (h.j hc hm).sh hsh hfr.2.1
  have hkt : s.cyc = true → s.mode = 2 → KM (barM s z c v) := fun hc hm => (h.k hc hm).sh hsh
  have hzt := hz.hs hsh hfr.2.1
  have hvt : ∀ o, getM (barM s z c v).obs v = some o → ReachM (barM s z c v) v := fun o ho => by
    obtain ⟨x, a, _⟩ := hsh.of v o ho
    exact (hv x a).hs hsh hfr.2.1
  obtain ⟨ot, hot, hotf, _⟩ := hsh.to z o0 ho0
  have hfe : fieldM s z c = ot.flds.getD c.toNat 0 := by unfold fieldM; rw [fldsM_some ho0, hotf]
  have hlen : ∀ o ∈ (barM s z c v).obs, o.flds.length ≤ 6 := by
    have : ∀ u, ∀ o ∈ (s.shade u).obs, o.flds.length ≤ 6 := fun u o ho => by
      rcases shade_cases s u with ⟨x, hg, hcx⟩ | hn
      · rw [shade_some hg hcx] at ho
        obtain ⟨o', ho', e⟩ := setCol_flds ho
        rw [e]
        exact h.fl o' ho'
      · rw [shade_none hn] at ho
        exact h.fl o ho
    unfold barM
    split
    · exact this _
    · split
      · exact this _
      · exact h.fl
  unfold putM at hinv ⊢
  generalize barM s z c v = t at hsh hfr hd1 hd2 hjt hkt hzt hvt hot hlen hinv
  have g : ∀ y, getM (setF t.obs z c v) y = if y = z then (getM t.obs y).map (fun o => { o with flds := o.flds.set c.toNat v }) else getM t.obs y := fun y => getM_setF hz1 y
  have gto : ∀ y x, getM t.obs y = some x → ∃ x', getM (setF t.obs z c v) y = some x' ∧ x'.col = x.col ∧ (y ≠ z → x'.flds = x.flds) ∧ (y = z → x'.flds = x.flds.set c.toNat v) := fun y x hx => by
    rw [g]
    by_cases e : y = z
    · rw [if_pos e, hx]
      exact ⟨_, rfl, rfl, fun q => absurd e q, fun _ => rfl⟩
    · rw [if_neg e]
      exact ⟨x, hx, rfl, fun _ => rfl, fun q => absurd q e⟩
  have gof : ∀ y x', getM (setF t.obs z c v) y = some x' → ∃ x, getM t.obs y = some x ∧ x'.col = x.col ∧ (y ≠ z → x'.flds = x.flds) ∧ (y = z → x'.flds = x.flds.set c.toNat v) := fun y x' hx => by
    rw [g] at hx
    by_cases e : y = z
    · rw [if_pos e] at hx
      cases ht : getM t.obs y with
      | none => rw [ht] at hx; cases hx
      | some x => rw [ht] at hx; simp at hx; subst hx; exact ⟨x, rfl, rfl, fun q => absurd e q, fun _ => rfl⟩
    · rw [if_neg e] at hx
      exact ⟨x', hx, rfl, fun _ => rfl, fun q => absurd q e⟩
  have hre : ∀ y, ReachM ({ t with obs := setF t.obs z c v } : StM) y → ReachM t y := fun y hy => by
    induction hy with
    | root h1 h2 =>
      obtain ⟨x, a, _⟩ := gof _ _ h2
      exact .root h1 a
    | @step y u x o _ h2 h3 h4 ih =>
      obtain ⟨x1, a1, _, b1, b2⟩ := gof _ _ h2
      obtain ⟨o1, a2, _⟩ := gof _ _ h4
      by_cases e : y = z
      · rw [b2 e] at h3
        rcases List.mem_or_eq_of_mem_set h3 with q | rfl
        · exact .step ih a1 q a2
        · exact hvt o1 a2
      · rw [b1 e] at h3
        exact .step ih a1 h3 a2
  refine ⟨hinv, by show (setF t.obs z c v).length ≤ 400; rw [setF_length, hfr.2.2.2]; exact h.len, fun o ho => ?_, by show t.mode = 1 ∨ t.mode = 2; rw [hfr.1]; exact h.md, fun hc hm y hy o ho hcol => ?_, fun hc hm y x hx hcol f hf o ho => ?_⟩
  · obtain ⟨i, hi, rfl⟩ := List.mem_iff_getElem.1 ho
    have hi' : i < t.obs.length := by have : i < (setF t.obs z c v).length := hi; rw [setF_length] at this; exact this
    have : ((setF t.obs z c v)[i]'hi).flds.length = (t.obs[i]).flds.length := by
      simp only [setF, List.getElem_modify]
      split <;> simp
    rw [this]
    exact hlen _ (List.getElem_mem _)
  · have hc' : s.cyc = true := by rw [← hfr.2.2.1]; exact hc
    have hm' : s.mode = 1 := by rw [← hfr.1]; exact hm
    have hwp : ∀ y, WP t y → WP ({ t with obs := setF t.obs z c v } : StM) y := fun y hy => by
      induction hy with
      | grey h1 h2 =>
        obtain ⟨x, a, b, _⟩ := gto _ _ h1
        exact .grey a (by omega)
      | @white y u x o _ h2 h3 h4 h5 ih =>
        obtain ⟨x1, a1, _, b1, b2⟩ := gto _ _ h2
        obtain ⟨o1, a2, c2, _⟩ := gto _ _ h4
        by_cases e : y = z
        · have hu : u ≠ fieldM s z c := fun q => by
            subst q
            exact hd1 hm' o h4 h5
          subst e
          have ex : x = ot := by rw [hot] at h2; injection h2 with h2; exact h2.symm
          subst ex
          refine .white ih a1 ?_ a2 (by omega)
          rw [b2 rfl]
          obtain ⟨i, hi, ei⟩ := List.mem_iff_getElem.1 h3
          refine List.mem_iff_getElem.2 ⟨i, by simpa using hi, ?_⟩
          rw [List.getElem_set_ne ?_]
          · exact ei
          · intro q
            apply hu
            rw [hfe, List.getD_eq_getElem?_getD, q, List.getElem?_eq_getElem hi]
            exact ei.symm
        · exact .white ih a1 (by rw [b1 e]; exact h3) a2 (by omega)
    obtain ⟨o1, a, b, _⟩ := gof y o ho
    exact hwp y (hjt hc' hm' y (hre y hy) o1 a (by omega))
  · have hc' : s.cyc = true := by rw [← hfr.2.2.1]; exact hc
    have hm' : s.mode = 2 := by rw [← hfr.1]; exact hm
    obtain ⟨x1, a1, c1, b1, b2⟩ := gof y x hx
    obtain ⟨o1, a2, c2, _⟩ := gof f o ho
    rw [c2]
    by_cases e : y = z
    · rw [b2 e] at hf
      rcases List.mem_or_eq_of_mem_set hf with q | rfl
      · exact hkt hc' hm' y x1 a1 (by omega) f q o1 a2
      · subst e
        exact hd2 hm' x1 a1 (by omega) o1 a2
    · rw [b1 e] at hf
      exact hkt hc' hm' y x1 a1 (by omega) f hf o1 a2
theorem shades_len6 {s : StM} (h : ∀ o ∈ s.obs, o.flds.length ≤ 6) : ∀ zs : List Int, ∀ o ∈ (s.shades zs).obs, o.flds.length ≤ 6
  | [] => h
  | z :: zs => by
    rw [shades_cons]
    refine shades_len6 (fun o ho => ?_) zs
    rcases shade_cases s z with ⟨x, hg, hcx⟩ | hn
    · rw [shade_some hg hcx] at ho
      obtain ⟨o', ho', e⟩ := setCol_flds ho
      rw [e]
      exact h o' ho'
    · rw [shade_none hn] at ho
      exact h o ho
theorem steps_len6 : ∀ (n : Nat) {s : StM}, (∀ o ∈ s.obs, o.flds.length ≤ 6) → ∀ o ∈ (StM.steps n s).obs, o.flds.length ≤ 6
  | 0, s, h => h
  | n + 1, s, h => by
    unfold StM.steps
    cases e : s.row with
    | nil => exact h
    | cons z r =>
      refine steps_len6 n fun o ho => ?_
      rw [step1_cons e] at ho
      obtain ⟨o', ho', q⟩ := setCol_flds ho
      rw [q]
      exact shades_len6 (s := ({ s with row := r } : StM)) h _ o' ho'
theorem GoodM.begin {s : StM} (h : GoodM s) (hc : s.cyc = false) : GoodM s.begin := by
  have hinv := h.inv.begin hc
  have hfr := shades_frame ({ s with obs := paintM s.obs 1, cyc := true } : StM) s.roots
  have hdn := shades_done ({ s with obs := paintM s.obs 1, cyc := true } : StM) s.roots
  have hsh := ShM.shades ({ s with obs := paintM s.obs 1, cyc := true } : StM) s.roots
  have h6 : ∀ o ∈ s.begin.obs, o.flds.length ≤ 6 := shades_len6 (fun o ho => by
    obtain ⟨o', ho', e⟩ := paintM_flds ho
    rw [e]
    exact h.fl o' ho') _
  have hnb : ∀ y o, getM s.begin.obs y = some o → o.col = 1 ∨ o.col = 2 := fun y o ho => by
    obtain ⟨x, a, _, c⟩ := hsh.of y o ho
    have a : getM (paintM s.obs 1) y = some x := a
    rw [getM_paint] at a
    cases hg : getM s.obs y with
    | none => rw [hg] at a; cases a
    | some q => rw [hg] at a; simp at a; subst a; simp at c; omega
  refine ⟨hinv, by show s.begin.obs.length ≤ 400; rw [show s.begin.obs.length = (paintM s.obs 1).length from hfr.2.2.2, paintM_length]; exact h.len, h6, by rw [show s.begin.mode = s.mode from hfr.1]; exact h.md, fun _ _ y hy o ho hcol => ?_, fun _ _ y x hx hcol => ?_⟩
  · have key : ∀ y, ReachM s.begin y → WP s.begin y := fun y hy => by
      induction hy with
      | @root y o h1 h2 =>
        have hr : y ∈ s.roots := by rw [show s.begin.roots = s.roots from hfr.2.1] at h1; exact h1
        have := hdn y hr o h2
        rcases hnb y o h2 with q | q
        · exact absurd q this
        · exact .grey h2 q
      | @step y u x o _ h2 h3 h4 ih =>
        rcases hnb u o h4 with q | q
        · exact .white ih h2 h3 h4 q
        · exact .grey h4 q
    exact key y hy
  · have := hnb y x hx
    omega
theorem GoodM.steps {s : StM} (h : GoodM s) (n : Nat) : GoodM (StM.steps n s) := by
  have hf := steps_frame n s
  refine ⟨h.inv.steps n, by rw [hf.2.2.2]; exact h.len, steps_len6 n h.fl, by rw [hf.1]; exact h.md, fun hc hm => JM.steps n h.inv (h.j (by rw [← hf.2.2.1]; exact hc) (by rw [← hf.1]; exact hm)), fun hc hm => KM.steps n h.inv (h.k (by rw [← hf.2.2.1]; exact hc) (by rw [← hf.1]; exact hm))⟩
theorem GoodM.fin {s : StM} (h : GoodM s) : GoodM s.fin := by
  have hl : s.drained.obs.length = s.obs.length := (steps_frame 400 _).2.2.2.trans (pre_frame s).1
  have hmo : s.drained.mode = s.mode := (steps_frame 400 _).1.trans (by split; exact (shades_frame _ _).1; rfl)
  refine ⟨h.inv.fin h.len, by show (sweepM s.drained.obs).length ≤ 400; rw [sweepM_length, hl]; exact h.len, fun o ho => ?_, by show s.drained.mode = 1 ∨ s.drained.mode = 2; rw [hmo]; exact h.md, (fun q => by cases q), (fun q => by cases q)⟩
  obtain ⟨o', ho', e⟩ := sweepM_flds ho
  rw [e]
  refine steps_len6 400 (fun x hx => ?_) o' ho'
  split at hx
  · exact shades_len6 h.fl _ x hx
  · exact h.fl x hx
theorem GoodM.new {mode : Int} (h : mode = 1 ∨ mode = 2) : GoodM (newM mode) := ⟨InvM.new mode, by simp [newM], fun o ho => by simp [newM] at ho, h, fun q => by simp [newM] at q, fun q => by simp [newM] at q⟩
theorem codeM_ok {s : StM} {op : OpM} (h : codeM s op = 0) : okM s op = true := by
  unfold codeM at h
  cases e : okM s op with
  | true => rfl
  | false => rw [if_pos e] at h; omega
theorem fcodeM_ok {s : StM} {z c : Int} (h : fcodeM s z c = 0) : ∃ o, getM s.obs z = some o ∧ 0 ≤ c ∧ c < (o.flds.length : Int) := by
  unfold fcodeM at h
  cases e : getM s.obs z with
  | none => rw [e] at h; simp at h
  | some o =>
    rw [e] at h
    simp only at h
    split at h
    · rename_i q; exact ⟨o, rfl, q.1, q.2⟩
    · omega
/-- Every op keeps it. -/
theorem GoodM.do {s : StM} (h : GoodM s) (op : OpM) : GoodM (doM s op) := by
  unfold doM
  split
  case isFalse => exact h
  case isTrue hc =>
    have hok := codeM_ok hc
    have hroot : ∀ n, isR n = true → ∀ o, getM s.obs (rootM s n) = some o → ReachM s (rootM s n) := fun n hn o ho => .root (rootM_mem h.inv hn) ho
    unfold actM
    by_cases k1 : op.kind = 1
    · rw [if_pos k1]
      unfold okM at hok
      rw [if_pos k1] at hok
      simp at hok
      exact h.make hok.2 hok.1.2.2
    rw [if_neg k1]
    unfold okM at hok
    rw [if_neg k1] at hok
    have hcd := hc
    unfold codeM at hcd
    rw [if_neg (by rw [codeM_ok hc]; simp)] at hcd
    by_cases k2 : op.kind = 2
    · rw [if_pos k2]
      rw [if_pos (.inl k2)] at hok
      rw [if_pos k2] at hcd
      obtain ⟨o, ho, hcc⟩ := fcodeM_ok hcd
      have hb : isR op.b = true := by simp at hok; exact hok.2
      exact h.setR (fun o' ho' => .step (hroot op.b hb o ho) ho (fieldM_mem ho hcc) ho') (fieldM_rng h.inv _ _)
    rw [if_neg k2]
    rw [if_neg k2] at hcd
    by_cases k3 : op.kind = 3
    · rw [if_pos k3]
      rw [if_pos (.inr (.inl k3))] at hok
      rw [if_pos k3] at hcd
      obtain ⟨o, ho, hcc⟩ := fcodeM_ok hcd
      simp at hok
      exact h.put (hroot op.a hok.1 o ho) ho hcc (hroot op.b hok.2) (rootM_rng h.inv _)
    rw [if_neg k3]
    rw [if_neg k3] at hcd
    by_cases k4 : op.kind = 4
    · rw [if_pos k4]
      rw [if_pos (.inr (.inr k4))] at hok
      simp at hok
      exact h.setR (hroot op.b hok.2) (rootM_rng h.inv _)
    rw [if_neg k4]
    by_cases k5 : op.kind = 5
    · rw [if_pos k5]
      exact h.setR (fun o ho => by rw [getM_zero] at ho; cases ho) (by omega)
    rw [if_neg k5]
    by_cases k6 : op.kind = 6
    · rw [if_pos k6]
      refine h.begin ?_
      cases hcy : s.cyc with
      | false => rfl
      | true => rw [if_pos ⟨by omega, by rw [hcy]; simp [k6]⟩] at hcd; omega
    rw [if_neg k6]
    by_cases k7 : op.kind = 7
    · rw [if_pos k7]
      exact h.steps _
    · rw [if_neg k7]
      exact h.fin
theorem GoodM.run {s : StM} (h : GoodM s) : ∀ ops : List OpM, GoodM (runM s ops)
  | [] => h
  | op :: ops => GoodM.run (h.do op) ops
/-- What goes with an op is not reached ahead of it. -/
theorem gone_not {s : StM} (h : GoodM s) (op : OpM) {z : Int} (hz : z ∈ (ansM s op).gone) : ¬ ReachM s z := by
  unfold ansM at hz
  simp only at hz
  split at hz
  · rename_i q
    obtain ⟨hc, hk⟩ := q
    have hcy : s.cyc = true := by
      unfold codeM at hc
      have hok := codeM_ok (s := s) (op := op) (by unfold codeM; exact hc)
      rw [if_neg (by rw [hok]; simp), if_neg (by omega), if_neg (by omega)] at hc
      cases hcy : s.cyc with
      | true => rfl
      | false => rw [if_pos ⟨by omega, by rw [hcy]; simp [hk]⟩] at hc; omega
    exact gone_safe h.inv h.len hcy h.md (h.j hcy) (h.k hcy) hz
  · simp at hz
end Go.Proofs.Ytjlaofoaglifpaa
