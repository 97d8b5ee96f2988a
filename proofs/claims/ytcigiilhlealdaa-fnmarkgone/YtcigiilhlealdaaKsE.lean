/- The specification's heap: a cycle begins. -/
import Derived.Test.YtcigiilhlealdaaKsD
namespace Go.Proofs.Ytcigiilhlealdaa
set_option linter.unusedVariables false
open Go.ChangeShapes Go.WideShapes Go.ChangeAt Go.RowKit

/-- The first of those that are there, painted. -/
def paintK (obs : List ObM) (ix : List Nat) (c : Int) : List ObM := ix.foldl (fun os (i : Nat) => setCol os ((i : Int) + 1) c) obs
theorem paintK_snoc (obs : List ObM) (ix : List Nat) (i : Nat) (c : Int) : paintK obs (ix ++ [i]) c = setCol (paintK obs ix c) ((i : Int) + 1) c := by simp [paintK, List.foldl_append]
theorem paintK_length (obs : List ObM) (c : Int) : ∀ ix : List Nat, (paintK obs ix c).length = obs.length := by
  intro ix
  induction ix generalizing obs with
  | nil => rfl
  | cons i ix ih =>
    show (paintK (setCol obs ((i : Int) + 1) c) ix c).length = _
    rw [ih, setCol_length]
theorem paintK_get (c : Int) : ∀ (ix : List Nat) (obs : List ObM) (i : Nat), (paintK obs ix c)[i]? = (obs[i]?).map fun o => if i ∈ ix then { o with col := c } else o
  | [], obs, i => by simp [paintK]
  | k :: ix, obs, i => by
    show (paintK (setCol obs ((k : Int) + 1) c) ix c)[i]? = _
    rw [paintK_get c ix, setCol, List.getElem?_modify, show ((k : Int) + 1).toNat - 1 = k by omega]
    cases obs[i]? with
    | none => rfl
    | some o =>
      by_cases e : k = i
      · subst e
        by_cases h : k ∈ ix <;> simp [h]
      · have e' : ¬ i = k := fun q => e q.symm
        by_cases h : i ∈ ix <;> simp [h, e, e']
theorem paintK_all (obs : List ObM) (c : Int) : paintK obs (therL obs) c = paintM obs c := by
  refine List.ext_getElem? fun i => ?_
  rw [paintK_get, paintM, List.getElem?_map]
  cases h : obs[i]? with
  | none => rfl
  | some o =>
    by_cases ht : o.there = true
    · have : i ∈ therL obs := mem_therL.2 ⟨o, h, ht⟩
      simp [this, ht]
    · have : i ∉ therL obs := fun q => by
        obtain ⟨o', h1, h2⟩ := mem_therL.1 q
        rw [h] at h1
        injection h1 with h1
        subst h1
        exact ht h2
      simp [this, ht]
theorem therL_paintK (obs : List ObM) (c : Int) : ∀ ix : List Nat, therL (paintK obs ix c) = therL obs := by
  intro ix
  induction ix generalizing obs with
  | nil => rfl
  | cons i ix ih =>
    show therL (paintK (setCol obs ((i : Int) + 1) c) ix c) = _
    rw [ih, therL_setCol]
/-- The cycle's flag. -/
theorem SpW.flag {w : World} {F : Nat → Prop} {H R : Nat} {s : StM} {ps fs : List Nat} {ov qv : Value} (h : SpW w F H s ps fs ov R qv) (b : Bool) : SpW (w.setCell ⟨H, 3, none⟩ (.bool b)) F H { s with cyc := b } ps fs ov R qv := by
  refine ⟨h.ob.kept fun k cs t a q => set_other _ (tag_ne a h.blk (by rcases q with q | q; rw [q]; decide; rw [q.1]; decide)), ?_, own_kept h.ow fun k q => ?_, ?_, own_kept h.ro fun k q => ?_, h.n1, h.n2, h.n3, ⟨h.lo.1, h.lo.2.1, by have := h.lo.2.2; simpa [World.setCell] using this⟩, h.fo⟩
  · rw [set_same _ h.blk]
    rfl
  · obtain ⟨cur, a⟩ := own_tag h.ow q
    exact set_other _ (tag_ne a h.blk (by decide))
  · rw [set_other _ (tag_ne h.rt h.blk (by decide))]
    exact h.rt
  · obtain ⟨cur, a⟩ := own_tag h.ro q
    exact set_other _ (tag_ne a h.blk (by decide))
theorem getM_paintK {obs : List ObM} {ix : List Nat} {c z : Int} {o : ObM} (h : getM obs z = some o) : ∃ o', getM (paintK obs ix c) z = some o' := by
  obtain ⟨h1, h2, h3⟩ := getM_some.1 h
  refine ⟨if z.toNat - 1 ∈ ix then { o with col := c } else o, getM_some.2 ⟨h1, by rw [paintK_get, h2]; rfl, ?_⟩⟩
  split <;> exact h3
set_option maxRecDepth 100000 in
set_option maxHeartbeats 1000000 in
theorem begin_calls (w : World) (F : Nat → Prop) (H : Nat) (s : StM) (ps fs : List Nat) (ov : Value) (R : Nat) (qv : Value) (h : SpW w F H s ps fs ov R qv) (hi : InvM s) (hc : s.cyc = false) (hl : s.obs.length ≤ 400) :
    Calls Try.prog 54 #[.pointer (some ⟨H, 0, none⟩)] w fun e w' => e = .returned (.tuple #[]) ∧ (∃ qv', SpW w' F H s.begin ps fs ov R qv') ∧ Keep F w w' := by
  have hH : Hid (SpW w F H s ps fs ov R qv) := h
  have hiH : Hid (InvM ({ s with obs := paintM s.obs 1, cyc := true } : StM)) := by
    have := hi.rest hc
    refine ⟨hi.rl, fun r hr => by show 0 ≤ r ∧ r ≤ ((paintM s.obs 1).length : Int); rw [paintM_length]; exact hi.rr r hr, fun o ho f hf => ?_, hi.nd, fun z => ?_, (fun q => by cases q), fun _ z o ho => ?_⟩
    · show 0 ≤ f ∧ f ≤ ((paintM s.obs 1).length : Int)
      rw [paintM_length]
      obtain ⟨x, hx, e⟩ := paintM_flds ho
      rw [e] at hf
      exact hi.fr x hx f hf
    · show z ∈ s.row ↔ ∃ o, getM (paintM s.obs 1) z = some o ∧ o.col = 2
      rw [this, getM_paint]
      constructor
      · intro q; simp at q
      · rintro ⟨o, h1, h2⟩
        cases hg : getM s.obs z with
        | none => rw [hg] at h1; cases h1
        | some x => rw [hg] at h1; simp at h1; subst h1; simp at h2
    · have ho : getM (paintM s.obs 1) z = some o := ho
      rw [getM_paint] at ho
      cases hg : getM s.obs z with
      | none => rw [hg] at ho; cases ho
      | some x => rw [hg] at ho; simp at ho; subst ho; exact .inl rfl
  have hll : (therL s.obs).length ≤ 400 := Nat.le_trans (therL_len _) hl
  have hll' : ((therL s.obs).length : Int) ≤ 400 := by omega
  obtain ⟨oa, oc, rfl⟩ := own_slice h.ow
  clear h hi hc
  go_enter Try.func54, Try.ntmps54
  go_wp2
  go_loopw [2] (fun i wr => ∃ m : Nat, m ≤ (therL s.obs).length ∧ i = .int .i64 m ∧ Hid (SpW wr F H { s with obs := paintK s.obs ((therL s.obs).take m) 1 } ps fs (.slice oa (therL s.obs).length oc) R qv) ∧ Hid (Keep F w wr)) (fun i _ => (therL s.obs).length - (intOf i).toNat)
  case atStart => exact ⟨0, Nat.zero_le _, rfl, by simpa [paintK] using hH, Keep.refl _ _⟩
  case round =>
    obtain ⟨m, hm, rfl, hS, hB⟩ := hrel
    have hm0 : (0 : Int) ≤ m := by omega
    have k1 : wr.cell? ⟨H, 1, none⟩ = some (.slice oa (therL s.obs).length oc) := cell_of hS.out.blk rfl
    by_cases hlt : m < (therL s.obs).length
    · have hlt' : (m : Int) < ((therL s.obs).length : Int) := by omega
      obtain ⟨g, gc, e⟩ := own_some hS.out.ow (by rw [therL_paintK]; omega)
      have hrow := hS.out.ow
      rw [show ({ s with obs := paintK s.obs ((therL s.obs).take m) 1 } : StM).obs = paintK s.obs ((therL s.obs).take m) 1 from rfl, therL_paintK] at hrow e
      injection e with e1 e2 e3
      subst e1
      obtain ⟨o, hg, _⟩ := therL_get (List.getElem_mem hlt)
      obtain ⟨o', hg'⟩ := getM_paintK (ix := (therL s.obs).take m) (c := 1) hg
      have hg2 : getM ({ s with obs := paintK s.obs ((therL s.obs).take m) 1 } : StM).obs ((((therL s.obs)[m] : Nat) : Int) + 1) = some o' := hg'
      have hob := (hS.out.ob.get hg2).blk
      have hN := hS.out.colour hg2 1
      have hpB : ¬ F (ps.getD ((((therL s.obs)[m] : Nat) : Int) + 1).toNat.pred 0) := by
        obtain ⟨a1, a2, _⟩ := getM_some.1 hg2
        have hi := (List.getElem?_eq_some_iff.1 a2).1
        refine hS.out.ob.lo.1 _ ?_
        rw [Nat.pred_eq_sub_one, List.getD_eq_getElem?_getD, List.getElem?_eq_getElem (by rw [hS.out.ob.lp]; exact hi)]
        exact List.getElem_mem _
      rw [Nat.pred_eq_sub_one] at hpB
      rw [show ((((therL s.obs)[m] : Nat) : Int) + 1).toNat - 1 = (therL s.obs)[m] by omega] at hob hN hpB
      have kp : wr.cell? ⟨g, m, none⟩ = some (.pointer (some ⟨ps.getD ((therL s.obs)[m]) 0, 0, none⟩)) := by
        rw [World.ownsRow.cellAt hrow m (by omega)]
        simp [ptrsP, hlt]
      have hN2 : Hid (SpW (wr.setCell ⟨ps.getD ((therL s.obs)[m]) 0, 2, none⟩ (.int .i64 1)) F H { s with obs := paintK s.obs ((therL s.obs).take (m + 1)) 1 } ps fs (.slice (some ⟨g, 0, none⟩) (therL s.obs).length oc) R qv) := by
        have e9 : (therL s.obs).take (m + 1) = (therL s.obs).take m ++ [(therL s.obs)[m]] := by rw [List.take_add_one, List.getElem?_eq_getElem hlt]; rfl
        rw [e9, paintK_snoc]
        exact hN
      have hB2 : Hid (Keep F w (wr.setCell ⟨ps.getD ((therL s.obs)[m]) 0, 2, none⟩ (.int .i64 1))) := hB.out.setCell (p := ⟨_, 2, none⟩) hpB _
      have kc : wr.cell? ⟨ps.getD ((therL s.obs)[m]) 0, 2, none⟩ = some (.int .i64 o'.col) := cell_of hob rfl
      have kz : wr.frozen? ⟨ps.getD ((therL s.obs)[m]) 0, 2, none⟩ = false := free_of hob
      generalize ps.getD ((therL s.obs)[m]) 0 = pp at kp hN2 hB2 kc kz
      clear hS hB hN hob hg2 hg hg' hrow e2 e3 hpB
      go_wp2
      go_roundw
      case rel => exact ⟨m + 1, by omega, by go_num, hN2, hB2⟩
      case measure => simp [intOf]; omega
    · have hge : ¬ ((m : Int) < ((therL s.obs).length : Int)) := by omega
      have hmE : m = (therL s.obs).length := by omega
      have hP : Hid (SpW wr F H { s with obs := paintM s.obs 1 } ps fs (.slice oa (therL s.obs).length oc) R qv) := by
        have h1 := hS.out
        rw [hmE, List.take_length, paintK_all] at h1
        exact h1
      have hF : Hid (SpW (wr.setCell ⟨H, 3, none⟩ (.bool true)) F H { s with obs := paintM s.obs 1, cyc := true } ps fs (.slice oa (therL s.obs).length oc) R qv) := hP.out.flag true
      have kc : wr.cell? ⟨H, 3, none⟩ = some (.bool s.cyc) := cell_of hP.out.blk rfl
      have kz : wr.frozen? ⟨H, 3, none⟩ = false := free_of hP.out.blk
      have hBf : Hid (Keep F w (wr.setCell ⟨H, 3, none⟩ (.bool true))) := hB.out.setCell (p := ⟨H, 3, none⟩) hP.out.lo.1 _
      have hro : Hid (Calls Try.prog 77 #[.pointer (some ⟨H, 0, none⟩)] (wr.setCell ⟨H, 3, none⟩ (.bool true)) fun e w' => e = .returned (.tuple #[]) ∧ (∃ qv', SpW w' F H s.begin ps fs (.slice oa (therL s.obs).length oc) R qv') ∧ Keep F (wr.setCell ⟨H, 3, none⟩ (.bool true)) w') := roots_calls _ F H _ ps fs _ R qv hF.out hiH.out (by show (paintM s.obs 1).length ≤ 400; rw [paintM_length]; exact hl)
      clear hS hP hF hmE hB
      go_wp2_with (go_at_call 77; refine (show Calls _ _ _ _ _ from hro.out).mono ?_; rintro e w1 ⟨rfl, hS1, hB1⟩; have hS1H : Hid (∃ qv', SpW w1 F H s.begin ps fs (.slice oa (therL s.obs).length oc) R qv') := hS1; have hB2 : Hid (Keep F w w1) := hBf.out.trans hB1; clear hS1 hB1)
      first | (refine bodyPost_ret (results_none rfl _ _ _) rfl ?_) | go_end0
      exact ⟨rfl, hS1H.out, hB2.out⟩
end Go.Proofs.Ytcigiilhlealdaa
