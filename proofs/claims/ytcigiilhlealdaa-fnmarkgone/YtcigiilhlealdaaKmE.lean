/- The program's marker: painting, a cycle begins, steps. -/
import Derived.Test.YtcigiilhlealdaaKmD
namespace Go.Proofs.Ytcigiilhlealdaa
set_option linter.unusedVariables false
open Go.ChangeShapes Go.WideShapes Go.ChangeAt Go.RowKit

set_option maxRecDepth 100000 in
set_option maxHeartbeats 1000000 in
theorem there_calls (w : World) (F : Nat → Prop) (M : Nat) (s : StM) (ps fs : List Nat) (ov tv : Value) (h : ImW w F M s ps fs ov tv) (hl : s.obs.length ≤ 400) :
    Calls Try.prog 59 #[.pointer (some ⟨M, 0, none⟩)] w fun e w' => ∃ v, e = .returned v ∧ w'.ownsRow w.heap.size 67 1 v (therL s.obs).length (ptrsP ps (therL s.obs)) ∧ Below w.heap.size w w' := by
  have k1 : w.cell? ⟨M, 1, none⟩ = some ov := h.mode.2.1
  have how := h.ow
  obtain ⟨tg, tc, rfl⟩ := own_some h.ow (by omega)
  have hwc : Hid (Calls Try.prog 78 #[.slice (some ⟨tg, 0, none⟩) (s.obs.length + 1) tc, .func (.func 79) #[] #[]] w fun e w' => ∃ v, e = .returned v ∧ w'.ownsRow w.heap.size 67 1 v (therL s.obs).length (ptrsP ps (therL s.obs)) ∧ Below w.heap.size w w') := without_calls w ps s.obs tg tc how hl
  clear h how
  go_enter Try.func59, Try.ntmps59
  go_wp2_with (go_at_call 78; refine (show Calls _ _ _ _ _ from hwc.out).mono ?_; rintro e w1 ⟨v, rfl, hv, hB⟩; have hvH : Hid _ := hv; have hBH : Hid _ := hB; obtain ⟨va, vc, rfl⟩ := own_slice hv; clear hv hB)
  go_ret
  exact ⟨_, rfl, hvH.out, hBH.out⟩
theorem ptrsP_get {ps ix : List Nat} {m : Nat} (h : m < ix.length) : (ptrsP ps ix)[m]'(by simp [ptrsP]; exact h) = .pointer (some ⟨ps.getD ix[m] 0, 0, none⟩) := by simp [ptrsP]
set_option maxRecDepth 100000 in
set_option maxHeartbeats 1000000 in
theorem paint_calls (w : World) (F : Nat → Prop) (M : Nat) (s : StM) (ps fs : List Nat) (ov tv : Value) (c : Int) (h : ImW w F M s ps fs ov tv) (hl : s.obs.length ≤ 400) :
    Calls Try.prog 84 #[.pointer (some ⟨M, 0, none⟩), .int .i64 c] w fun e w' => e = .returned (.tuple #[]) ∧ ImW w' F M { s with obs := paintM s.obs c } ps fs ov tv ∧ Keep F w w' := by
  have hH : Hid (ImW w F M s ps fs ov tv) := h
  have hth : Hid (Calls Try.prog 59 #[.pointer (some ⟨M, 0, none⟩)] w fun e w' => ∃ v, e = .returned v ∧ w'.ownsRow w.heap.size 67 1 v (therL s.obs).length (ptrsP ps (therL s.obs)) ∧ Below w.heap.size w w') := there_calls w F M s ps fs ov tv h hl
  have hll : (therL s.obs).length ≤ 400 := Nat.le_trans (therL_len _) hl
  have hll' : ((therL s.obs).length : Int) ≤ 400 := by omega
  clear h
  go_enter Try.func84, Try.ntmps84
  go_wp2_with (go_at_call 59; refine (show Calls _ _ _ _ _ from hth.out).mono ?_; rintro e w1 ⟨v, rfl, hv, hB⟩; have hvH : Hid _ := hv; have hI1 : Hid _ := hH.out.below hB; have hK1 : Hid _ := Keep.of hB hH.out.lo.2; obtain ⟨va, vc, rfl⟩ := own_slice hv; clear hv hB)
  go_loopw [9] (fun i wr => ∃ m : Nat, m ≤ (therL s.obs).length ∧ i = .int .i64 m ∧ Hid (ImW wr F M { s with obs := paintK s.obs ((therL s.obs).take m) c } ps fs ov tv) ∧ Hid (wr.ownsRow w.heap.size 67 1 (.slice va (therL s.obs).length vc) (therL s.obs).length (ptrsP ps (therL s.obs))) ∧ Hid (Keep F w wr)) (fun i _ => (therL s.obs).length - (intOf i).toNat)
  case atStart => exact ⟨0, Nat.zero_le _, rfl, by simpa [paintK] using hI1, hvH, hK1⟩
  case round =>
    clear hvH hI1 hK1
    obtain ⟨m, hm, rfl, hS, hO, hB⟩ := hrel
    have hm0 : (0 : Int) ≤ m := by omega
    by_cases hlt : m < (therL s.obs).length
    · have hlt' : (m : Int) < ((therL s.obs).length : Int) := by omega
      obtain ⟨g, gc, e⟩ := own_some hO.out (by omega)
      injection e with e1 e2 e3
      subst e1
      obtain ⟨o, hg, _⟩ := therL_get (List.getElem_mem hlt)
      obtain ⟨o', hg'⟩ := getM_paintK (ix := (therL s.obs).take m) (c := c) hg
      have hg2 : getM ({ s with obs := paintK s.obs ((therL s.obs).take m) c } : StM).obs ((((therL s.obs)[m] : Nat) : Int) + 1) = some o' := hg'
      have hob := (hS.out.ob.get hg2).blk
      have hN := hS.out.colour hg2 c
      rw [show ((((therL s.obs)[m] : Nat) : Int) + 1).toNat - 1 = (therL s.obs)[m] by omega] at hob hN
      have kp : wr.cell? ⟨g, m, none⟩ = some (.pointer (some ⟨ps.getD ((therL s.obs)[m]) 0, 0, none⟩)) := by
        rw [World.ownsRow.cellAt hO.out m (by omega)]
        simp [ptrsP, hlt]
      have hN2 : Hid (ImW (wr.setCell ⟨ps.getD ((therL s.obs)[m]) 0, 2, none⟩ (.int .i64 c)) F M { s with obs := paintK s.obs ((therL s.obs).take (m + 1)) c } ps fs ov tv) := by
        have e9 : (therL s.obs).take (m + 1) = (therL s.obs).take m ++ [(therL s.obs)[m]] := by rw [List.take_add_one, List.getElem?_eq_getElem hlt]; rfl
        rw [e9, paintK_snoc]
        exact hN.1
      have hB2 : Hid (Keep F w (wr.setCell ⟨ps.getD ((therL s.obs)[m]) 0, 2, none⟩ (.int .i64 c))) := hB.out.trans hN.2
      have hO2 : Hid ((wr.setCell ⟨ps.getD ((therL s.obs)[m]) 0, 2, none⟩ (.int .i64 c)).ownsRow w.heap.size 67 1 (.slice (some ⟨g, 0, none⟩) (therL s.obs).length vc) (therL s.obs).length (ptrsP ps (therL s.obs))) := own_kept hO.out fun k q => by
        obtain ⟨cur, b⟩ := own_tag hO.out q
        exact set_other _ (tag_ne b hob (by decide))
      have kc : wr.cell? ⟨ps.getD ((therL s.obs)[m]) 0, 2, none⟩ = some (.int .i64 o'.col) := cell_of hob rfl
      have kz : wr.frozen? ⟨ps.getD ((therL s.obs)[m]) 0, 2, none⟩ = false := free_of hob
      generalize ps.getD ((therL s.obs)[m]) 0 = pp at kp hN2 hB2 hO2 kc kz
      clear hS hB hN hob hg2 hg hg' hO e2 e3
      go_wp2
      go_roundw
      case rel => exact ⟨m + 1, by omega, by go_num, hN2, hO2, hB2⟩
      case measure => simp [intOf]; omega
    · have hge : ¬ ((m : Int) < ((therL s.obs).length : Int)) := by omega
      have hmE : m = (therL s.obs).length := by omega
      have hP : Hid (ImW wr F M { s with obs := paintM s.obs c } ps fs ov tv) := by
        have h1 := hS.out
        rw [hmE, List.take_length, paintK_all] at h1
        exact h1
      clear hS hmE
      go_wp2
      first | (refine bodyPost_ret (results_none rfl _ _ _) rfl ?_) | go_end0
      exact ⟨rfl, hP.out, hB.out⟩
theorem InvM.painted {s : StM} (hi : InvM s) (hc : s.cyc = false) : InvM ({ s with obs := paintM s.obs 1, cyc := true } : StM) := by
  have := hi.rest hc
  refine ⟨hi.rl, fun r hr => by show 0 ≤ r ∧ r ≤ ((paintM s.obs 1).length : Int); rw [paintM_length]; exact hi.rr r hr, fun o ho f hf => ?_, hi.nd, fun z => ?_, (fun q => by cases q), fun _ z o ho => ?_⟩
  · show 0 ≤ f ∧ f ≤ ((paintM s.obs 1).length : Int)
    rw [paintM_length]
    obtain ⟨x, hx, e⟩ := paintM_flds ho
    rw [e] at hf
    exact hi.fr x hx f hf
  · show z ∈ s.row ↔ ∃ o, getM (paintM s.obs 1) z = some o ∧ o.col = 2
    rw [this, getM_paint]
    constructor
    · intro q; simp at q
    · rintro ⟨o, h1, h2⟩
      cases hg : getM s.obs z with
      | none => rw [hg] at h1; cases h1
      | some x => rw [hg] at h1; simp at h1; subst h1; simp at h2
  · have ho : getM (paintM s.obs 1) z = some o := ho
    rw [getM_paint] at ho
    cases hg : getM s.obs z with
    | none => rw [hg] at ho; cases ho
    | some x => rw [hg] at ho; simp at ho; subst ho; exact .inl rfl
/-- What the roots hold is shaded. -/
theorem rootsM_calls (w : World) (F : Nat → Prop) (M : Nat) (s : StM) (ps fs : List Nat) (ov tv : Value) (h : ImW w F M s ps fs ov tv) (hi : InvM s) (hl : s.obs.length ≤ 400) :
    Calls Try.prog 83 #[.pointer (some ⟨M, 0, none⟩), .slice (some ⟨M, 2, none⟩) 8 8] w fun e w' => e = .returned (.tuple #[]) ∧ (∃ tv', ImW w' F M (s.shades s.roots) ps fs ov tv') ∧ Keep F w w' := by
  have := shadeM_calls w F M s ps fs ov tv s.roots (some ⟨M, 2, none⟩) 8 h hl hi.rr (by rw [hi.rl]; omega) (fun m => by have h1 := (hi.shades (s.roots.take m)).rowlen; rw [(shades_frame s _).2.2.2] at h1; omega) (fun W tv' m hW _ j hj => ⟨M, 2, rfl, by
    have h8 : j < 8 := by rw [← hi.rl]; exact hj
    have h1 := hW.mode.2.2.2.2.1 j h8
    have e := (shades_frame s (s.roots.take m)).2.1
    simp only [e] at h1
    exact h1⟩)
  rw [hi.rl] at this
  exact this
set_option maxRecDepth 100000 in
set_option maxHeartbeats 1000000 in
theorem beginM_calls (w : World) (F : Nat → Prop) (M : Nat) (s : StM) (ps fs : List Nat) (ov tv : Value) (h : ImW w F M s ps fs ov tv) (hi : InvM s) (hc : s.cyc = false) (hl : s.obs.length ≤ 400) :
    Calls Try.prog 70 #[.pointer (some ⟨M, 0, none⟩)] w fun e w' => e = .returned (.tuple #[]) ∧ (∃ tv', ImW w' F M s.begin ps fs ov tv') ∧ Keep F w w' := by
  have k10 : w.cell? ⟨M, 10, none⟩ = some (.bool s.cyc) := h.mode.2.2.1
  have kf : w.frozen? ⟨M, 10, none⟩ = false := h.mode.2.2.2.2.2 10
  have hf := h.flag true
  have hp : Hid (Calls Try.prog 84 #[.pointer (some ⟨M, 0, none⟩), .int .i64 1] (w.setCell ⟨M, 10, none⟩ (.bool true)) fun e w' => e = .returned (.tuple #[]) ∧ ImW w' F M { s with obs := paintM s.obs 1, cyc := true } ps fs ov tv ∧ Keep F (w.setCell ⟨M, 10, none⟩ (.bool true)) w') := paint_calls _ F M _ ps fs ov tv 1 hf.1 hl
  have hK : Hid (Keep F w (w.setCell ⟨M, 10, none⟩ (.bool true))) := hf.2
  have hiP : Hid (InvM ({ s with obs := paintM s.obs 1, cyc := true } : StM)) := hi.painted hc
  have hlP : Hid (({ s with obs := paintM s.obs 1, cyc := true } : StM).obs.length ≤ 400) := by show (paintM s.obs 1).length ≤ 400; rw [paintM_length]; exact hl
  clear h hi hf
  go_enter Try.func70, Try.ntmps70
  go_wp2_with (first
    | (go_at_call 84; refine (show Calls _ _ _ _ _ from hp.out).mono ?_; rintro e w1 ⟨rfl, hI1, hK1⟩; have hI1H : Hid _ := hI1; have hK1H : Hid _ := hK.out.trans hK1; clear hI1 hK1)
    | (go_at_call 83; refine (rootsM_calls w1 F M _ ps fs ov tv hI1H.out hiP.out hlP.out).mono ?_; rintro e w2 ⟨rfl, hI2, hK2⟩; have hI2H : Hid (∃ tv', ImW w2 F M s.begin ps fs ov tv') := hI2; have hK2H : Hid _ := hK1H.out.trans hK2; clear hI2 hK2))
  first | (refine bodyPost_ret (results_none rfl _ _ _) rfl ?_) | go_end0
  exact ⟨rfl, hI2H.out, hK2H.out⟩
/-- What the fields of the first hold is shaded. -/
theorem fieldsM_calls (w : World) (F : Nat → Prop) (M : Nat) (s : StM) (ps fs : List Nat) (ov tv : Value) {z : Int} {o : ObM} (hg : getM s.obs z = some o) (h : ImW w F M s ps fs ov tv) (hi : InvZ s z) (hl : s.obs.length ≤ 400) (h6 : o.flds.length ≤ 6) :
    Calls Try.prog 83 #[.pointer (some ⟨M, 0, none⟩), .slice (some ⟨fs.getD (z.toNat - 1) 0, 0, none⟩) o.flds.length o.flds.length] w fun e w' => e = .returned (.tuple #[]) ∧ (∃ tv', ImW w' F M (s.shades o.flds) ps fs ov tv') ∧ Keep F w w' := by
  refine shadeM_calls w F M s ps fs ov tv o.flds (some ⟨fs.getD (z.toNat - 1) 0, 0, none⟩) o.flds.length h hl (fun f hf => hi.fr o (getM_mem hg) f hf) (by omega) (fun m => by have h1 := (hi.shades (o.flds.take m)).rowlen; rw [(shades_frame s _).2.2.2] at h1; omega) (fun W tv' m hW _ j hj => ⟨_, 0, rfl, ?_⟩)
  obtain ⟨o', hg', hf', _⟩ := (ShM.shades s (o.flds.take m)).to z o hg
  have a := hW.ob.get hg'
  have h1 := cell_of a.row (intsV_cell (zs := o'.flds) (j := j) (by rw [hf']; exact hj))
  simp only [hf'] at h1
  rw [Nat.zero_add]
  exact h1
end Go.Proofs.Ytcigiilhlealdaa
