/- The program's marker: painting, a cycle begins, steps. -/
import Derived.Test.YtchcdlelaklnnaaKmD
import Derived.StillTailTactics
namespace Go.Proofs.Ytchcdlelaklnnaa
set_option linter.unusedVariables false
open Go.ChangeShapes Go.WideShapes Go.ChangeAt Go.RowKit

set_option maxRecDepth 100000 in
set_option maxHeartbeats 1000000 in
theorem there_calls (w : World) (F : Nat → Prop) (M : Nat) (s : StM) (ps fs : List Nat) (ov tv : Value) (h : ImW w F M s ps fs ov tv) (hl : s.obs.length ≤ 400) :
    Calls Try.prog 33 #[.pointer (some ⟨M, 0, none⟩)] w fun e w' => ∃ v, e = .returned v ∧ w'.ownsRow w.heap.size 62 1 v (therL s.obs).length (ptrsP ps (therL s.obs)) ∧ Below w.heap.size w w' := by
  have k1 : w.cell? ⟨M, 1, none⟩ = some ov := h.mode.2.1
  have how := h.ow
  obtain ⟨tg, tc, rfl⟩ := own_some h.ow (by omega)
  have hwc : Hid (Calls Try.prog 59 #[.slice (some ⟨tg, 0, none⟩) (s.obs.length + 1) tc, .func (.func 60) #[] #[]] w fun e w' => ∃ v, e = .returned v ∧ w'.ownsRow w.heap.size 62 1 v (therL s.obs).length (ptrsP ps (therL s.obs)) ∧ Below w.heap.size w w') := without_calls w ps s.obs tg tc how hl
  clear h how
  go_enter Try.func33, Try.ntmps33
  go_wp2_with (go_at_call 59; refine (show Calls _ _ _ _ _ from hwc.out).mono ?_; rintro e w1 ⟨v, rfl, hv, hB⟩; have hvH : Hid _ := hv; have hBH : Hid _ := hB; obtain ⟨va, vc, rfl⟩ := own_slice hv; clear hv hB)
  go_ret
  exact ⟨_, rfl, hvH.out, hBH.out⟩
theorem ptrsP_get {ps ix : List Nat} {m : Nat} (h : m < ix.length) : (ptrsP ps ix)[m]'(by simp [ptrsP]; exact h) = .pointer (some ⟨ps.getD ix[m] 0, 0, none⟩) := by simp [ptrsP]
set_option maxRecDepth 100000 in
set_option maxHeartbeats 1000000 in
theorem paint_calls (w : World) (F : Nat → Prop) (M : Nat) (s : StM) (ps fs : List Nat) (ov tv : Value) (c : Int) (h : ImW w F M s ps fs ov tv) (hl : s.obs.length ≤ 400) :
    Calls Try.prog 73 #[.pointer (some ⟨M, 0, none⟩), .int .i64 c] w fun e w' => e = .returned (.tuple #[]) ∧ ImW w' F M { s with obs := paintM s.obs c } ps fs ov tv ∧ Keep F w w' := by
  have hH : Hid (ImW w F M s ps fs ov tv) := h
  have hth : Hid (Calls Try.prog 33 #[.pointer (some ⟨M, 0, none⟩)] w fun e w' => ∃ v, e = .returned v ∧ w'.ownsRow w.heap.size 62 1 v (therL s.obs).length (ptrsP ps (therL s.obs)) ∧ Below w.heap.size w w') := there_calls w F M s ps fs ov tv h hl
  have hll : (therL s.obs).length ≤ 400 := Nat.le_trans (therL_len _) hl
  have hll' : ((therL s.obs).length : Int) ≤ 400 := by omega
  clear h
  go_enter Try.func73, Try.ntmps73
  go_wp2_with (go_at_call 33; refine (show Calls _ _ _ _ _ from hth.out).mono ?_; rintro e w1 ⟨v, rfl, hv, hB⟩; have hvH : Hid _ := hv; have hI1 : Hid _ := hH.out.below hB; have hK1 : Hid _ := Keep.of hB hH.out.lo.2; obtain ⟨va, vc, rfl⟩ := own_slice hv; clear hv hB)
  go_loopw [9] (fun i wr => ∃ m : Nat, m ≤ (therL s.obs).length ∧ i = .int .i64 m ∧ Hid (ImW wr F M { s with obs := paintK s.obs ((therL s.obs).take m) c } ps fs ov tv) ∧ Hid (wr.ownsRow w.heap.size 62 1 (.slice va (therL s.obs).length vc) (therL s.obs).length (ptrsP ps (therL s.obs))) ∧ Hid (Keep F w wr)) (fun i _ => (therL s.obs).length - (intOf i).toNat)
  case atStart => exact ⟨0, Nat.zero_le _, rfl, by simpa [paintK] using hI1, hvH, hK1⟩
  case round =>
    clear hvH hI1 hK1
    obtain ⟨m, hm, rfl, hS, hO, hB⟩ := hrel
    have hm0 : (0 : Int) ≤ m := by omega
    by_cases hlt : m < (therL s.obs).length
    · have hlt' : (m : Int) < ((therL s.obs).length : Int) := by omega
      obtain ⟨g, gc, e⟩ := own_some hO.out (by omega)
      injection e with e1 e2 e3
      subst e1
      obtain ⟨o, hg, _⟩ := therL_get (List.getElem_mem hlt)
      obtain ⟨o', hg'⟩ := getM_paintK (ix := (therL s.obs).take m) (c := c) hg
      have hg2 : getM ({ s with obs := paintK s.obs ((therL s.obs).take m) c } : StM).obs ((((therL s.obs)[m] : Nat) : Int) + 1) = some o' := hg'
      have hob := (hS.out.ob.get hg2).blk
      have hN := hS.out.colour hg2 c
      rw [show ((((therL s.obs)[m] : Nat) : Int) + 1).toNat - 1 = (therL s.obs)[m] by omega] at hob hN
      have kp : wr.cell? ⟨g, m, none⟩ = some (.pointer (some ⟨ps.getD ((therL s.obs)[m]) 0, 0, none⟩)) := by
        rw [World.ownsRow.cellAt hO.out m (by omega)]
        simp [ptrsP, hlt]
      have hN2 : Hid (ImW (wr.setCell ⟨ps.getD ((therL s.obs)[m]) 0, 2, none⟩ (.int .i64 c)) F M { s with obs := paintK s.obs ((therL s.obs).take (m + 1)) c } ps fs ov tv) := by
        have e9 : (therL s.obs).take (m + 1) = (therL s.obs).take m ++ [(therL s.obs)[m]] := by rw [List.take_add_one, List.getElem?_eq_getElem hlt]; rfl
        rw [e9, paintK_snoc]
        exact hN.1
      have hB2 : Hid (Keep F w (wr.setCell ⟨ps.getD ((therL s.obs)[m]) 0, 2, none⟩ (.int .i64 c))) := hB.out.trans hN.2
      have hO2 : Hid ((wr.setCell ⟨ps.getD ((therL s.obs)[m]) 0, 2, none⟩ (.int .i64 c)).ownsRow w.heap.size 62 1 (.slice (some ⟨g, 0, none⟩) (therL s.obs).length vc) (therL s.obs).length (ptrsP ps (therL s.obs))) := own_kept hO.out fun k q => by
        obtain ⟨cur, b⟩ := own_tag hO.out q
        exact set_other _ (tag_ne b hob (by decide))
      have kc : wr.cell? ⟨ps.getD ((therL s.obs)[m]) 0, 2, none⟩ = some (.int .i64 o'.col) := cell_of hob rfl
      have kz : wr.frozen? ⟨ps.getD ((therL s.obs)[m]) 0, 2, none⟩ = false := free_of hob
      generalize ps.getD ((therL s.obs)[m]) 0 = pp at kp hN2 hB2 hO2 kc kz
      clear hS hB hN hob hg2 hg hg' hO e2 e3
      go_wp2
      go_roundw
      case rel => exact ⟨m + 1, by omega, by go_num, hN2, hO2, hB2⟩
      case measure => simp [intOf]; omega
    · have hge : ¬ ((m : Int) < ((therL s.obs).length : Int)) := by omega
      have hmE : m = (therL s.obs).length := by omega
      have hP : Hid (ImW wr F M { s with obs := paintM s.obs c } ps fs ov tv) := by
        have h1 := hS.out
        rw [hmE, List.take_length, paintK_all] at h1
        exact h1
      clear hS hmE
      go_wp2
      first | (refine bodyPost_ret (results_none rfl _ _ _) rfl ?_) | go_end0
      exact ⟨rfl, hP.out, hB.out⟩
theorem InvM.painted {s : StM} (hi : InvM s) (hc : s.cyc = false) : InvM ({ s with obs := paintM s.obs 1, cyc := true } : StM) := by
  have := hi.rest hc
  refine ⟨hi.rl, fun r hr => by show 0 ≤ r ∧ r ≤ ((paintM s.obs 1).length : Int); rw [paintM_length]; exact hi.rr r hr, fun o ho f hf => ?_, hi.nd, fun z => ?_, (fun q => by cases q), fun _ z o ho => ?_⟩
  · show 0 ≤ f ∧ f ≤ ((paintM s.obs 1).length : Int)
    rw [paintM_length]
    obtain ⟨x, hx, e⟩ := paintM_flds ho
    rw [e] at hf
    exact hi.fr x hx f hf
  · show z ∈ s.row ↔ ∃ o, getM (paintM s.obs 1) z = some o ∧ o.col = 2
    rw [this, getM_paint]
    constructor
    · intro q; simp at q
    · rintro ⟨o, h1, h2⟩
      cases hg : getM s.obs z with
      | none => rw [hg] at h1; cases h1
      | some x => rw [hg] at h1; simp at h1; subst h1; simp at h2
  · have ho : getM (paintM s.obs 1) z = some o := ho
    rw [getM_paint] at ho
    cases hg : getM s.obs z with
    | none => rw [hg] at ho; cases ho
    | some x => rw [hg] at ho; simp at ho; subst ho; exact .inl rfl
/-- What the roots hold is shaded. -/
theorem rootsM_calls (w : World) (F : Nat → Prop) (M : Nat) (s : StM) (ps fs : List Nat) (ov tv : Value) (h : ImW w F M s ps fs ov tv) (hi : InvM s) (hl : s.obs.length ≤ 400) :
    Calls Try.prog 72 #[.pointer (some ⟨M, 0, none⟩), .slice (some ⟨M, 2, none⟩) 8 8] w fun e w' => e = .returned (.tuple #[]) ∧ (∃ tv', ImW w' F M (s.shades s.roots) ps fs ov tv') ∧ Keep F w w' := by
  have := shadeM_calls w F M s ps fs ov tv s.roots (some ⟨M, 2, none⟩) 8 h hl hi.rr (by rw [hi.rl]; omega) (fun m => by have h1 := (hi.shades (s.roots.take m)).rowlen; rw [(shades_frame s _).2.2.2] at h1; omega) (fun W tv' m hW _ j hj => ⟨M, 2, rfl, by
    have h8 : j < 8 := by rw [← hi.rl]; exact hj
    have h1 := hW.mode.2.2.2.2.1 j h8
    have e := (shades_frame s (s.roots.take m)).2.1
    simp only [e] at h1
    exact h1⟩)
  rw [hi.rl] at this
  exact this
set_option maxRecDepth 100000 in
set_option maxHeartbeats 1000000 in
theorem beginM_calls (w : World) (F : Nat → Prop) (M : Nat) (s : StM) (ps fs : List Nat) (ov tv : Value) (h : ImW w F M s ps fs ov tv) (hi : InvM s) (hc : s.cyc = false) (hl : s.obs.length ≤ 400) :
    Calls Try.prog 54 #[.pointer (some ⟨M, 0, none⟩)] w fun e w' => e = .returned (.tuple #[]) ∧ (∃ tv', ImW w' F M s.begin ps fs ov tv') ∧ Keep F w w' := by
  have k10 : w.cell? ⟨M, 10, none⟩ = some (.bool s.cyc) := h.mode.2.2.1
  have kf : w.frozen? ⟨M, 10, none⟩ = false := h.mode.2.2.2.2.2 10
  have hf := h.flag true
  have hp : Hid (Calls Try.prog 73 #[.pointer (some ⟨M, 0, none⟩), .int .i64 1] (w.setCell ⟨M, 10, none⟩ (.bool true)) fun e w' => e = .returned (.tuple #[]) ∧ ImW w' F M { s with obs := paintM s.obs 1, cyc := true } ps fs ov tv ∧ Keep F (w.setCell ⟨M, 10, none⟩ (.bool true)) w') := paint_calls _ F M _ ps fs ov tv 1 hf.1 hl
  have hK : Hid (Keep F w (w.setCell ⟨M, 10, none⟩ (.bool true))) := hf.2
  have hiP : Hid (InvM ({ s with obs := paintM s.obs 1, cyc := true } : StM)) := hi.painted hc
  have hlP : Hid (({ s with obs := paintM s.obs 1, cyc := true } : StM).obs.length ≤ 400) := by show (paintM s.obs 1).length ≤ 400; rw [paintM_length]; exact hl
  clear h hi hf
  go_enter Try.func54, Try.ntmps54
  go_wp2_with (first
    | (go_at_call 73; refine (show Calls _ _ _ _ _ from hp.out).mono ?_; rintro e w1 ⟨rfl, hI1, hK1⟩; have hI1H : Hid _ := hI1; have hK1H : Hid _ := hK.out.trans hK1; clear hI1 hK1)
    | (go_at_call 72; refine (rootsM_calls w1 F M _ ps fs ov tv hI1H.out hiP.out hlP.out).mono ?_; rintro e w2 ⟨rfl, hI2, hK2⟩; have hI2H : Hid (∃ tv', ImW w2 F M s.begin ps fs ov tv') := hI2; have hK2H : Hid _ := hK1H.out.trans hK2; clear hI2 hK2))
  first | (refine bodyPost_ret (results_none rfl _ _ _) rfl ?_) | go_end0
  exact ⟨rfl, hI2H.out, hK2H.out⟩
/-- What the fields of the first hold is shaded. -/
theorem fieldsM_calls (w : World) (F : Nat → Prop) (M : Nat) (s : StM) (ps fs : List Nat) (ov tv : Value) {z : Int} {o : ObM} (hg : getM s.obs z = some o) (h : ImW w F M s ps fs ov tv) (hi : InvZ s z) (hl : s.obs.length ≤ 400) (h6 : o.flds.length ≤ 6) :
    Calls Try.prog 72 #[.pointer (some ⟨M, 0, none⟩), .slice (some ⟨fs.getD (z.toNat - 1) 0, 0, none⟩) o.flds.length o.flds.length] w fun e w' => e = .returned (.tuple #[]) ∧ (∃ tv', ImW w' F M (s.shades o.flds) ps fs ov tv') ∧ Keep F w w' := by
  refine shadeM_calls w F M s ps fs ov tv o.flds (some ⟨fs.getD (z.toNat - 1) 0, 0, none⟩) o.flds.length h hl (fun f hf => hi.fr o (getM_mem hg) f hf) (by omega) (fun m => by have h1 := (hi.shades (o.flds.take m)).rowlen; rw [(shades_frame s _).2.2.2] at h1; omega) (fun W tv' m hW _ j hj => ⟨_, 0, rfl, ?_⟩)
  obtain ⟨o', hg', hf', _⟩ := (ShM.shades s (o.flds.take m)).to z o hg
  have a := hW.ob.get hg'
  have h1 := cell_of a.row (intsV_cell (zs := o'.flds) (j := j) (by rw [hf']; exact hj))
  simp only [hf'] at h1
  rw [Nat.zero_add]
  exact h1
end Go.Proofs.Ytchcdlelaklnnaa

/- The program's marker: steps. -/
namespace Go.Proofs.Ytchcdlelaklnnaa
set_option linter.unusedVariables false
open Go.ChangeShapes Go.WideShapes Go.ChangeAt Go.RowKit

set_option maxRecDepth 100000 in
set_option maxHeartbeats 2000000 in
theorem stepM_calls (w : World) (F : Nat → Prop) (M : Nat) (s : StM) (ps fs : List Nat) (ov tv : Value) (n : Nat) (h : ImW w F M s ps fs ov tv) (hi : InvM s) (hl : s.obs.length ≤ 400) (h6 : ∀ o ∈ s.obs, o.flds.length ≤ 6) (hn : n ≤ 1000) :
    Calls Try.prog 55 #[.pointer (some ⟨M, 0, none⟩), .int .i64 n] w fun e w' => e = .returned (.tuple #[]) ∧ (∃ tv', ImW w' F M (StM.steps n s) ps fs ov tv') ∧ Keep F w w' := by
  have hH : Hid (ImW w F M s ps fs ov tv) := h
  have hiH : Hid (InvM s) := hi
  have h6H : Hid (∀ o ∈ s.obs, o.flds.length ≤ 6) := h6
  clear h6 h hi
  go_enter Try.func55, Try.ntmps55
  go_wp2
  go_loopw [1] (fun nv wr => ∃ (m : Nat) (t : StM) (tv : Value), m ≤ n ∧ nv = .int .i64 m ∧ Hid (ImW wr F M t ps fs ov tv) ∧ Hid (InvM t) ∧ Hid (StM.steps n s = StM.steps m t) ∧ Hid (t.obs.length = s.obs.length) ∧ Hid (∀ o ∈ t.obs, o.flds.length ≤ 6) ∧ Hid (Keep F w wr)) (fun nv _ => (intOf nv).toNat)
  case atStart => exact ⟨n, s, tv, Nat.le_refl _, rfl, hH, hiH, rfl, rfl, h6H, Keep.refl _ _⟩
  case round =>
    obtain ⟨m, t, tv, hm, rfl, hS, hI, hE, htl, h6t, hB⟩ := hrel
    have hrow : t.row.length ≤ 400 := by have := hI.out.rowlen; have := htl.out; omega
    have hrow' : (t.row.length : Int) ≤ 400 := by omega
    have hlen : Hid (Calls Try.prog 29 #[.pointer (some ⟨M, 11, none⟩)] wr fun e w' => e = .returned (.int .i64 t.row.length) ∧ w' = wr) := length_calls wr F M t ps fs ov tv hS.out hrow
    by_cases hm0 : m = 0
    · subst hm0
      have hfin : Hid (StM.steps n s = t) := hE.out
      clear hlen
      go_wp2
      first | (refine bodyPost_ret (results_none rfl _ _ _) rfl ?_) | go_end0
      exact ⟨rfl, ⟨_, by rw [hfin.out]; exact hS.out⟩, hB.out⟩
    · have hm1 : (0 : Int) < m := by omega
      have hm2 : (m : Int) ≤ 1000 := by omega
      cases hr : t.row with
      | nil =>
        have hfin : Hid (StM.steps n s = t) := by show _ = _; rw [hE.out, steps_nil hr]
        rw [hr, List.length_nil] at hlen
        clear hE hr hrow hrow'
        go_wp2_with (go_at_call 29; refine (show Calls _ _ _ _ _ from hlen.out).mono ?_; rintro e w1 ⟨rfl, hw⟩; subst hw)
        first | (refine bodyPost_ret (results_none rfl _ _ _) rfl ?_) | go_end0
        exact ⟨rfl, ⟨_, by rw [hfin.out]; exact hS.out⟩, hB.out⟩
      | cons z r =>
        have hE2 : Hid (StM.steps n s = StM.steps (m - 1) t.step1) := by show _ = _; rw [hE.out]; have := steps_succ hr (m - 1); rwa [show m - 1 + 1 = m by omega] at this
        have hZH : Hid (InvZ { t with row := r } z) := hI.out.pop hr
        have hI1 : Hid (InvM t.step1) := hI.out.step1
        have h61 : Hid (∀ o ∈ t.step1.obs, o.flds.length ≤ 6) := by have := steps_len6 1 h6t.out; rw [steps_succ hr 0] at this; exact this
        have hl1 : Hid (t.step1.obs.length = s.obs.length) := by have := (steps_frame 1 t).2.2.2; rw [steps_succ hr 0] at this; exact this.trans htl.out
        have hst : Hid (t.step1 = { (({ t with row := r } : StM).shades (fldsM t.obs z)) with obs := setCol (({ t with row := r } : StM).shades (fldsM t.obs z)).obs z 3 }) := step1_cons hr
        obtain ⟨o, hg, hcol⟩ := (hI.out.gr z).1 (by rw [hr]; simp)
        have hgH : Hid (getM t.obs z = some o) := hg
        have ho6 : o.flds.length ≤ 6 := h6t.out o (getM_mem hg)
        have hfe : Hid (fldsM t.obs z = o.flds) := fldsM_some hg
        have htk : Hid (Calls Try.prog 74 #[.pointer (some ⟨M, 11, none⟩)] wr fun e w' => e = .returned (.pointer (some ⟨ps.getD (z.toNat - 1) 0, 0, none⟩)) ∧ (∃ tv', ImW w' F M { t with row := r } ps fs ov tv') ∧ Keep F wr w') := take_calls wr F M t ps fs ov tv z r hS.out hr hrow
        have hlpos : (0 : Int) < t.row.length := by rw [hr]; simp
        have hlt4 : Hid (({ t with row := r } : StM).obs.length ≤ 400) := by show t.obs.length ≤ 400; have := htl.out; omega
        have hfl : Hid (∀ (W : World) (tv' : Value), ImW W F M { t with row := r } ps fs ov tv' → Calls Try.prog 72 #[.pointer (some ⟨M, 0, none⟩), .slice (some ⟨fs.getD (z.toNat - 1) 0, 0, none⟩) o.flds.length o.flds.length] W fun e w' => e = .returned (.tuple #[]) ∧ (∃ tv', ImW w' F M (({ t with row := r } : StM).shades o.flds) ps fs ov tv') ∧ Keep F W w') := fun W tv' hW => fieldsM_calls W F M { t with row := r } ps fs ov tv' hgH.out hW hZH.out hlt4.out ho6
        have hco : Hid (∀ (W : World) (tv' : Value), ImW W F M (({ t with row := r } : StM).shades o.flds) ps fs ov tv' → (∃ u, W.cell? ⟨ps.getD (z.toNat - 1) 0, 2, none⟩ = some u) ∧ W.frozen? ⟨ps.getD (z.toNat - 1) 0, 2, none⟩ = false ∧ ImW (W.setCell ⟨ps.getD (z.toNat - 1) 0, 2, none⟩ (.int .i64 3)) F M t.step1 ps fs ov tv' ∧ Keep F W (W.setCell ⟨ps.getD (z.toNat - 1) 0, 2, none⟩ (.int .i64 3))) := fun W tv' hW => by
          obtain ⟨o', hg', _, _⟩ := (ShM.shades ({ t with row := r } : StM) o.flds).to z o hgH.out
          have a := hW.ob.get hg'
          have c := hW.colour hg' 3
          refine ⟨⟨_, cell_of a.blk rfl⟩, free_of a.blk, ?_, c.2⟩
          rw [hst.out, hfe.out]
          exact c.1
        have hfield : Hid (∀ (W : World) (tv' : Value), ImW W F M { t with row := r } ps fs ov tv' → W.cell? ⟨ps.getD (z.toNat - 1) 0, 1, none⟩ = some (.slice (some ⟨fs.getD (z.toNat - 1) 0, 0, none⟩) o.flds.length o.flds.length)) := fun W tv' hW => cell_of (hW.ob.get (z := z) (o := o) hgH.out).blk rfl
        generalize ps.getD (z.toNat - 1) 0 = pp at htk hco hfield
        generalize fs.getD (z.toNat - 1) 0 = ff at hfl hfield
        clear hr hg hcol hE hS hI hiH hH hgH hfe hst hZH hlt4 htl
        go_wp2_with (first
          | (go_at_call 29; refine (show Calls _ _ _ _ _ from hlen.out).mono ?_; rintro e w1 ⟨rfl, hw⟩; subst hw)
          | (go_at_call 74; refine (show Calls _ _ _ _ _ from htk.out).mono ?_; rintro e w2 ⟨rfl, ⟨tv2, hS2⟩, hK2⟩; have hS2H : Hid _ := hS2; have hB2 : Hid _ := hB.out.trans hK2; have kf2 := hfield.out w2 tv2 hS2; clear hS2 hK2)
          | (go_at_call 72; refine (show Calls _ _ _ _ _ from hfl.out w2 tv2 hS2H.out).mono ?_; rintro e w3 ⟨rfl, ⟨tv3, hS3⟩, hK3⟩; have hB3 : Hid _ := hB2.out.trans hK3; obtain ⟨⟨u3, kc3⟩, kz3, hS4, hK4⟩ := hco.out w3 tv3 hS3; have hS4H : Hid _ := hS4; have hB4 : Hid _ := hB3.out.trans hK4; clear hS3 hK3 hS4 hK4 kf2))
        go_roundw
        case rel => exact ⟨m - 1, t.step1, tv3, by omega, by first | go_num | (simp; omega), hS4H, hI1, hE2, hl1, h61, hB4⟩
        case measure => simp [intOf]; omega
end Go.Proofs.Ytchcdlelaklnnaa

/- The program's marker: the white ones go. -/
namespace Go.Proofs.Ytchcdlelaklnnaa
set_option linter.unusedVariables false
open Go.ChangeShapes Go.WideShapes Go.ChangeAt Go.RowKit

theorem own_set {w : World} {B e g n c : Nat} {xs : List Value} (h : w.ownsRow B e 1 (.slice (some ⟨g, 0, none⟩) n c) n xs) (j : Nat) (v : Value) : (w.setCell ⟨g, j, none⟩ v).ownsRow B e 1 (.slice (some ⟨g, 0, none⟩) n c) n (xs.set j v) := by
  refine ⟨by rw [List.length_set]; exact h.1, ?_⟩
  rcases h.2 with ⟨q, _⟩ | ⟨g', cap, cur, q, hb, hg, h1, h2, h3, h4⟩
  · simp at q
  · have q' := q
    simp only [Value.slice.injEq, Option.some.injEq, Addr.mk.injEq, and_true, true_and] at q'
    obtain ⟨rfl, rfl⟩ := q'
    refine .inr ⟨g, c, cur.setIfInBounds j v, rfl, hb, set_same _ hg, h1, h2, by simpa using h3, ?_⟩
    rw [← h4, Array.toList_setIfInBounds, List.take_set]
def dropAt (obs : List ObM) (z : Int) : List ObM := obs.modify (z.toNat - 1) fun o => { o with there := false }
theorem dropAt_length (obs : List ObM) (z : Int) : (dropAt obs z).length = obs.length := by simp [dropAt]
theorem tabP_dropAt {ps : List Nat} {obs : List ObM} {z : Int} {o : ObM} (h : getM obs z = some o) : tabP ps (dropAt obs z) = (tabP ps obs).set z.toNat (.pointer none) := by
  obtain ⟨h1, h2, h3⟩ := getM_some.1 h
  have hl := (List.getElem?_eq_some_iff.1 h2).1
  obtain ⟨m, hm⟩ : ∃ m, z.toNat = m + 1 := ⟨z.toNat - 1, by omega⟩
  rw [hm] at h2 hl ⊢
  simp only [Nat.add_sub_cancel] at h2 hl
  refine List.ext_getElem (by simp [tabP, dropAt]) fun i q1 q2 => ?_
  cases i with
  | zero => simp [tabP]
  | succ i =>
    have hi : i < obs.length := by simp [tabP, dropAt] at q1; omega
    by_cases e : i = m
    · subst e
      simp [tabP, dropAt, hm, hi]
    · have e2 : ¬ m = i := fun q => e q.symm
      have e3 : ¬ m + 1 = i + 1 := by omega
      simp [tabP, dropAt, hm, e2, hi, List.getElem?_modify]
theorem ImW.drop {w : World} {F : Nat → Prop} {M : Nat} {s : StM} {ps fs : List Nat} {ov tv : Value} (h : ImW w F M s ps fs ov tv) {z : Int} {o : ObM} (hg : getM s.obs z = some o) {g : Nat} (ho : ov.ownBlock = some g) : ImW (w.setCell ⟨g, z.toNat, none⟩ (.pointer none)) F M { s with obs := dropAt s.obs z } ps fs ov tv ∧ Keep F w (w.setCell ⟨g, z.toNat, none⟩ (.pointer none)) := by
  obtain ⟨_, cur, hb⟩ := h.ltO ho
  have how := h.ow
  obtain ⟨g2, c, e⟩ := own_some h.ow (by omega)
  have e0 := e
  rw [e] at ho
  simp only [Value.ownBlock, Option.some.injEq] at ho
  subst ho
  refine ⟨⟨⟨by rw [dropAt_length]; exact h.ob.lp, by rw [dropAt_length]; exact h.ob.lf, fun i x hx => ?_, h.ob.nd, h.ob.lo⟩, ?_, ?_, h.ro.kept fun k q => ?_, h.ne, h.rl, ⟨h.lo.1, fun k q => by have := h.lo.2 k q; simpa [World.setCell] using this⟩, h.fo⟩, (Keep.refl _ _).setCell (p := ⟨g2, _, none⟩) (h.fo.1 g2 (by rw [e]; rfl)) _⟩
  · unfold dropAt at hx
    rw [List.getElem?_modify] at hx
    cases hxi : s.obs[i]? with
    | none => rw [hxi] at hx; simp at hx
    | some y =>
      rw [hxi] at hx
      have hy : x.flds = y.flds ∧ x.col = y.col := by
        by_cases q : z.toNat - 1 = i
        · simp [q] at hx; subst hx; exact ⟨rfl, rfl⟩
        · simp [q] at hx; subst hx; exact ⟨rfl, rfl⟩
      have a := h.ob.at_ i y hxi
      refine ⟨?_, ?_⟩
      · rw [hy.1, hy.2, set_other _ (tag_ne a.blk hb (by decide))]
        exact a.blk
      · rw [hy.1, set_other _ (tag_ne a.row hb (by decide))]
        exact a.row
  · rw [set_other _ (tag_ne h.blk hb (by decide))]
    exact h.blk
  · show World.ownsRow _ _ _ _ _ ((dropAt s.obs z).length + 1) (tabP ps (dropAt s.obs z))
    rw [dropAt_length, tabP_dropAt hg]
    rw [e] at how ⊢
    exact own_set how _ _
  · obtain ⟨_, c2, b⟩ := h.ltT q
    exact set_other _ (fun e9 => h.ne g2 (by rw [e]; rfl) (e9 ▸ q))
def dropK (obs : List ObM) (ix : List Nat) : List ObM := obs.mapIdx fun i o => if i ∈ ix ∧ o.col = 1 then { o with there := false } else o
theorem dropK_get (obs : List ObM) (ix : List Nat) (i : Nat) : (dropK obs ix)[i]? = (obs[i]?).map fun o => if i ∈ ix ∧ o.col = 1 then { o with there := false } else o := by
  unfold dropK
  rw [List.getElem?_mapIdx]
theorem dropK_length (obs : List ObM) (ix : List Nat) : (dropK obs ix).length = obs.length := by simp [dropK]
theorem dropK_nil (obs : List ObM) : dropK obs [] = obs := by
  refine List.ext_getElem? fun i => ?_
  rw [dropK_get]
  cases obs[i]? <;> simp
theorem dropK_left {obs : List ObM} {ix : List Nat} {i : Nat} {o : ObM} (h : obs[i]? = some o) (hc : o.col ≠ 1) : dropK obs (ix ++ [i]) = dropK obs ix := by
  refine List.ext_getElem? fun j => ?_
  rw [dropK_get, dropK_get]
  by_cases e : j = i
  · subst e
    rw [h]
    simp [hc]
  · cases obs[j]? <;> simp [e]
theorem dropK_white {obs : List ObM} {ix : List Nat} {i : Nat} {o : ObM} (h : obs[i]? = some o) (hc : o.col = 1) : dropK obs (ix ++ [i]) = dropAt (dropK obs ix) ((i : Int) + 1) := by
  refine List.ext_getElem? fun j => ?_
  rw [dropAt, List.getElem?_modify, dropK_get, dropK_get, show ((i : Int) + 1).toNat - 1 = i by omega]
  by_cases e : j = i
  · subst e
    rw [h]
    by_cases q : j ∈ ix <;> simp [hc, q]
  · have e' : ¬ i = j := fun q => e q.symm
    cases obs[j]? with
    | none => simp
    | some x => by_cases q : j ∈ ix <;> simp [e, e', q]
theorem dropK_cur {obs : List ObM} {ix : List Nat} {i : Nat} {o : ObM} (h : getM obs ((i : Int) + 1) = some o) (hi : i ∉ ix) : getM (dropK obs ix) ((i : Int) + 1) = some o := by
  obtain ⟨h1, h2, h3⟩ := getM_some.1 h
  refine getM_some.2 ⟨h1, ?_, h3⟩
  rw [show ((i : Int) + 1).toNat - 1 = i by omega] at h2 ⊢
  rw [dropK_get, h2]
  simp [hi]
theorem dropK_paint (obs : List ObM) : paintM (dropK obs (therL obs)) 0 = sweepM obs := by
  refine List.ext_getElem? fun i => ?_
  unfold paintM sweepM
  rw [List.getElem?_map, List.getElem?_map, dropK_get]
  cases h : obs[i]? with
  | none => rfl
  | some o =>
    cases ht : o.there with
    | true =>
      have : i ∈ therL obs := mem_therL.2 ⟨o, h, ht⟩
      by_cases hc : o.col = 1 <;> simp [this, hc, ht]
    | false =>
      have : i ∉ therL obs := fun q => by
        obtain ⟨o', h1, h2⟩ := mem_therL.1 q
        rw [h] at h1
        injection h1 with h1
        subst h1
        rw [ht] at h2
        cases h2
      simp [this, ht]
/-- Where the dropping stands. -/
structure DrW (w wr : World) (F : Nat → Prop) (M : Nat) (t : StM) (ps fs : List Nat) (ov tv gv rv : Value) (ix : List Nat) : Prop where
  im : ImW wr (fun k => F k ∨ gv.ownBlock = some k) M { t with obs := dropK t.obs ix } ps fs ov tv
  go : OutAt w.heap.size wr gv (goneL t.obs ix)
  th : wr.ownsRow w.heap.size 62 1 rv (therL t.obs).length (ptrsP ps (therL t.obs))
  kp : Keep F w wr
  fl : ∀ k, F k → k < w.heap.size
  ol : ∀ k, ov.ownBlock = some k → k < w.heap.size
theorem DrW.ne {w wr : World} {F : Nat → Prop} {M : Nat} {t : StM} {ps fs : List Nat} {ov tv gv rv : Value} {ix : List Nat} (h : DrW w wr F M t ps fs ov tv gv rv ix) {k : Nat} (q : gv.ownBlock = some k) : ¬ F k ∧ rv.ownBlock ≠ some k ∧ k < wr.heap.size := by
  refine ⟨fun r => ?_, fun r => ?_, (World.ownsRow.lt h.go k q).2⟩
  · have := (World.ownsRow.lt h.go k q).1
    have := h.fl k r
    omega
  · obtain ⟨c1, a⟩ := own_tag h.go q
    obtain ⟨c2, b⟩ := own_tag h.th r
    exact tag_ne a b (by decide) rfl
theorem DrW.left {w wr : World} {F : Nat → Prop} {M : Nat} {t : StM} {ps fs : List Nat} {ov tv gv rv : Value} {ix : List Nat} {i : Nat} {o : ObM} (h : DrW w wr F M t ps fs ov tv gv rv ix) (hi : t.obs[i]? = some o) (hc : o.col ≠ 1) : DrW w wr F M t ps fs ov tv gv rv (ix ++ [i]) := by
  refine ⟨?_, ?_, h.th, h.kp, h.fl, h.ol⟩
  · rw [dropK_left hi hc]
    exact h.im
  · rw [(leftL_snoc (ix := ix) hi hc).2]
    exact h.go
theorem DrW.white {w wr : World} {F : Nat → Prop} {M : Nat} {t : StM} {ps fs : List Nat} {ov tv gv rv : Value} {ix : List Nat} {i : Nat} {o : ObM} {tg : Nat} (h : DrW w wr F M t ps fs ov tv gv rv ix) (hg : getM t.obs ((i : Int) + 1) = some o) (hn : i ∉ ix) (hc : o.col = 1) (ho : ov.ownBlock = some tg) :
    ImW (wr.setCell ⟨tg, i + 1, none⟩ (.pointer none)) (fun k => F k ∨ gv.ownBlock = some k) M { t with obs := dropK t.obs (ix ++ [i]) } ps fs ov tv ∧ OutAt w.heap.size (wr.setCell ⟨tg, i + 1, none⟩ (.pointer none)) gv (goneL t.obs ix) ∧ (wr.setCell ⟨tg, i + 1, none⟩ (.pointer none)).ownsRow w.heap.size 62 1 rv (therL t.obs).length (ptrsP ps (therL t.obs)) ∧ Keep F w (wr.setCell ⟨tg, i + 1, none⟩ (.pointer none)) := by
  have hcur := dropK_cur (ix := ix) hg hn
  obtain ⟨a, b⟩ := h.im.drop (z := (i : Int) + 1) hcur ho
  obtain ⟨_, h2, _⟩ := getM_some.1 hg
  rw [show ((i : Int) + 1).toNat - 1 = i by omega] at h2
  rw [show ((i : Int) + 1).toNat = i + 1 by omega] at a b
  refine ⟨?_, ?_, ?_, h.kp.trans (b.mono fun k q => .inl q)⟩
  · rw [dropK_white h2 hc]
    exact a
  · exact own_kept h.go fun k q => by
      obtain ⟨c1, d⟩ := own_tag h.go q
      obtain ⟨_, c2, e⟩ := h.im.ltO ho
      exact set_other _ (tag_ne d e (by decide))
  · exact own_kept h.th fun k q => set_other _ fun e => by
      have := (World.ownsRow.lt h.th k q).1
      have := h.ol tg ho
      omega
theorem DrW.gone {w wr W w3 : World} {F : Nat → Prop} {M : Nat} {t : StM} {ps fs : List Nat} {ov tv gv rv gv' : Value} {ix : List Nat} {i : Nat} {o : ObM} {ob : Obj} (h : DrW w wr F M t ps fs ov tv gv rv ix) (hi : t.obs[i]? = some o) (hc : o.col = 1)
    (hW : ImW W (fun k => F k ∨ gv.ownBlock = some k) M { t with obs := dropK t.obs (ix ++ [i]) } ps fs ov tv ∧ OutAt w.heap.size W gv (goneL t.obs ix) ∧ W.ownsRow w.heap.size 62 1 rv (therL t.obs).length (ptrsP ps (therL t.obs)) ∧ Keep F w W)
    (hg : (W.alloc ob).grownBy w3 gv.ownBlock) (ho : w3.ownsRow w.heap.size 2 1 gv' ((goneL t.obs ix).length + 1) (intsV (goneL t.obs ix) ++ [.int .i64 ((i : Int) + 1)])) (ha : gv'.ownBlock = gv.ownBlock ∨ gv'.ownBlock = some (W.alloc ob).heap.size) : DrW w w3 F M t ps fs ov tv gv' rv (ix ++ [i]) := by
  obtain ⟨hI, hO, hT, hK⟩ := hW
  have s1 : (W.alloc ob).heap.size = W.heap.size + 1 := World.size_alloc _ _
  have s2 := hg.size
  have kp : ∀ k, k < W.heap.size → gv.ownBlock ≠ some k → w3.heap[k]? = W.heap[k]? := fun k hk hq => by
    rw [hg.block k (by omega) (fun e => hq e.symm), Below.heap_alloc _ _ _ hk]
  have hnew : ∀ k, k < W.heap.size → gv.ownBlock ≠ some k → gv'.ownBlock ≠ some k := fun k hk hq q => by
    rcases ha with e | e
    · exact hq (e.symm.trans q)
    · rw [e] at q
      injection q with q
      omega
  have hsz := hK.size
  refine ⟨?_, ?_, ?_, ?_, h.fl, h.ol⟩
  · refine hI.mv (fun k hk hn => ⟨kp k hk (fun q => hn (.inr q)), fun q => ?_⟩) fun k hk => ?_
    · rcases q with q | q
      · exact hn (.inl q)
      · exact hnew k hk (fun q => hn (.inr q)) q
    · rcases hk with q | q
      · have := h.fl k q
        omega
      · exact (World.ownsRow.lt ho k q).2
  · rw [(goneL_snoc (ix := ix) hi hc).1]
    unfold OutAt
    rw [List.length_append, intsV_append]
    exact ho
  · refine own_kept hT fun k q => kp k (World.ownsRow.lt hT k q).2 fun r => ?_
    obtain ⟨c1, a⟩ := own_tag hO r
    obtain ⟨c2, b⟩ := own_tag hT q
    exact tag_ne a b (by decide) rfl
  · refine hK.trans ⟨hg.os, hg.tape, hg.output, by omega, fun k hk => ?_⟩
    have := h.fl k hk
    exact kp k (by omega) (fun q => (h.ne q).1 hk)
end Go.Proofs.Ytchcdlelaklnnaa
