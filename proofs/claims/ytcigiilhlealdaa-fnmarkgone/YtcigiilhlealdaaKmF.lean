/- The program's marker: steps. -/
import Derived.Test.YtcigiilhlealdaaKmE
namespace Go.Proofs.Ytcigiilhlealdaa
set_option linter.unusedVariables false
open Go.ChangeShapes Go.WideShapes Go.ChangeAt Go.RowKit

set_option maxRecDepth 100000 in
set_option maxHeartbeats 2000000 in
theorem stepM_calls (w : World) (F : Nat → Prop) (M : Nat) (s : StM) (ps fs : List Nat) (ov tv : Value) (n : Nat) (h : ImW w F M s ps fs ov tv) (hi : InvM s) (hl : s.obs.length ≤ 400) (h6 : ∀ o ∈ s.obs, o.flds.length ≤ 6) (hn : n ≤ 1000) :
    Calls Try.prog 71 #[.pointer (some ⟨M, 0, none⟩), .int .i64 n] w fun e w' => e = .returned (.tuple #[]) ∧ (∃ tv', ImW w' F M (StM.steps n s) ps fs ov tv') ∧ Keep F w w' := by
  have hH : Hid (ImW w F M s ps fs ov tv) := h
  have hiH : Hid (InvM s) := hi
  have h6H : Hid (∀ o ∈ s.obs, o.flds.length ≤ 6) := h6
  clear h6 h hi
  go_enter Try.func71, Try.ntmps71
  go_wp2
  go_loopw [1] (fun nv wr => ∃ (m : Nat) (t : StM) (tv : Value), m ≤ n ∧ nv = .int .i64 m ∧ Hid (ImW wr F M t ps fs ov tv) ∧ Hid (InvM t) ∧ Hid (StM.steps n s = StM.steps m t) ∧ Hid (t.obs.length = s.obs.length) ∧ Hid (∀ o ∈ t.obs, o.flds.length ≤ 6) ∧ Hid (Keep F w wr)) (fun nv _ => (intOf nv).toNat)
  case atStart => exact ⟨n, s, tv, Nat.le_refl _, rfl, hH, hiH, rfl, rfl, h6H, Keep.refl _ _⟩
  case round =>
    obtain ⟨m, t, tv, hm, rfl, hS, hI, hE, htl, h6t, hB⟩ := hrel
    have hrow : t.row.length ≤ 400 := by have := hI.out.rowlen; have := htl.out; omega
    have hrow' : (t.row.length : Int) ≤ 400 := by omega
    have hlen : Hid (Calls Try.prog 48 #[.pointer (some ⟨M, 11, none⟩)] wr fun e w' => e = .returned (.int .i64 t.row.length) ∧ w' = wr) := length_calls wr F M t ps fs ov tv hS.out hrow
    by_cases hm0 : m = 0
    · subst hm0
      have hfin : Hid (StM.steps n s = t) := hE.out
      clear hlen
      go_wp2
      first | (refine bodyPost_ret (results_none rfl _ _ _) rfl ?_) | go_end0
      exact ⟨rfl, ⟨_, by rw [hfin.out]; exact hS.out⟩, hB.out⟩
    · have hm1 : (0 : Int) < m := by omega
      have hm2 : (m : Int) ≤ 1000 := by omega
      cases hr : t.row with
      | nil =>
        have hfin : Hid (StM.steps n s = t) := by show _ = _; rw [hE.out, steps_nil hr]
        rw [hr, List.length_nil] at hlen
        clear hE hr hrow hrow'
        go_wp2_with (go_at_call 48; refine (show Calls _ _ _ _ _ from hlen.out).mono ?_; rintro e w1 ⟨rfl, hw⟩; subst hw)
        first | (refine bodyPost_ret (results_none rfl _ _ _) rfl ?_) | go_end0
        exact ⟨rfl, ⟨_, by rw [hfin.out]; exact hS.out⟩, hB.out⟩
      | cons z r =>
        have hE2 : Hid (StM.steps n s = StM.steps (m - 1) t.step1) := by show _ = _; rw [hE.out]; have := steps_succ hr (m - 1); rwa [show m - 1 + 1 = m by omega] at this
        have hZH : Hid (InvZ { t with row := r } z) := hI.out.pop hr
        have hI1 : Hid (InvM t.step1) := hI.out.step1
        have h61 : Hid (∀ o ∈ t.step1.obs, o.flds.length ≤ 6) := by have := steps_len6 1 h6t.out; rw [steps_succ hr 0] at this; exact this
        have hl1 : Hid (t.step1.obs.length = s.obs.length) := by have := (steps_frame 1 t).2.2.2; rw [steps_succ hr 0] at this; exact this.trans htl.out
        have hst : Hid (t.step1 = { (({ t with row := r } : StM).shades (fldsM t.obs z)) with obs := setCol (({ t with row := r } : StM).shades (fldsM t.obs z)).obs z 3 }) := step1_cons hr
        obtain ⟨o, hg, hcol⟩ := (hI.out.gr z).1 (by rw [hr]; simp)
        have hgH : Hid (getM t.obs z = some o) := hg
        have ho6 : o.flds.length ≤ 6 := h6t.out o (getM_mem hg)
        have hfe : Hid (fldsM t.obs z = o.flds) := fldsM_some hg
        have htk : Hid (Calls Try.prog 85 #[.pointer (some ⟨M, 11, none⟩)] wr fun e w' => e = .returned (.pointer (some ⟨ps.getD (z.toNat - 1) 0, 0, none⟩)) ∧ (∃ tv', ImW w' F M { t with row := r } ps fs ov tv') ∧ Keep F wr w') := take_calls wr F M t ps fs ov tv z r hS.out hr hrow
        have hlpos : (0 : Int) < t.row.length := by rw [hr]; simp
        have hlt4 : Hid (({ t with row := r } : StM).obs.length ≤ 400) := by show t.obs.length ≤ 400; have := htl.out; omega
        have hfl : Hid (∀ (W : World) (tv' : Value), ImW W F M { t with row := r } ps fs ov tv' → Calls Try.prog 83 #[.pointer (some ⟨M, 0, none⟩), .slice (some ⟨fs.getD (z.toNat - 1) 0, 0, none⟩) o.flds.length o.flds.length] W fun e w' => e = .returned (.tuple #[]) ∧ (∃ tv', ImW w' F M (({ t with row := r } : StM).shades o.flds) ps fs ov tv') ∧ Keep F W w') := fun W tv' hW => fieldsM_calls W F M { t with row := r } ps fs ov tv' hgH.out hW hZH.out hlt4.out ho6
        have hco : Hid (∀ (W : World) (tv' : Value), ImW W F M (({ t with row := r } : StM).shades o.flds) ps fs ov tv' → (∃ u, W.cell? ⟨ps.getD (z.toNat - 1) 0, 2, none⟩ = some u) ∧ W.frozen? ⟨ps.getD (z.toNat - 1) 0, 2, none⟩ = false ∧ ImW (W.setCell ⟨ps.getD (z.toNat - 1) 0, 2, none⟩ (.int .i64 3)) F M t.step1 ps fs ov tv' ∧ Keep F W (W.setCell ⟨ps.getD (z.toNat - 1) 0, 2, none⟩ (.int .i64 3))) := fun W tv' hW => by
          obtain ⟨o', hg', _, _⟩ := (ShM.shades ({ t with row := r } : StM) o.flds).to z o hgH.out
          have a := hW.ob.get hg'
          have c := hW.colour hg' 3
          refine ⟨⟨_, cell_of a.blk rfl⟩, free_of a.blk, ?_, c.2⟩
          rw [hst.out, hfe.out]
          exact c.1
        have hfield : Hid (∀ (W : World) (tv' : Value), ImW W F M { t with row := r } ps fs ov tv' → W.cell? ⟨ps.getD (z.toNat - 1) 0, 1, none⟩ = some (.slice (some ⟨fs.getD (z.toNat - 1) 0, 0, none⟩) o.flds.length o.flds.length)) := fun W tv' hW => cell_of (hW.ob.get (z := z) (o := o) hgH.out).blk rfl
        generalize ps.getD (z.toNat - 1) 0 = pp at htk hco hfield
        generalize fs.getD (z.toNat - 1) 0 = ff at hfl hfield
        clear hr hg hcol hE hS hI hiH hH hgH hfe hst hZH hlt4 htl
        go_wp2_with (first
          | (go_at_call 48; refine (show Calls _ _ _ _ _ from hlen.out).mono ?_; rintro e w1 ⟨rfl, hw⟩; subst hw)
          | (go_at_call 85; refine (show Calls _ _ _ _ _ from htk.out).mono ?_; rintro e w2 ⟨rfl, ⟨tv2, hS2⟩, hK2⟩; have hS2H : Hid _ := hS2; have hB2 : Hid _ := hB.out.trans hK2; have kf2 := hfield.out w2 tv2 hS2; clear hS2 hK2)
          | (go_at_call 83; refine (show Calls _ _ _ _ _ from hfl.out w2 tv2 hS2H.out).mono ?_; rintro e w3 ⟨rfl, ⟨tv3, hS3⟩, hK3⟩; have hB3 : Hid _ := hB2.out.trans hK3; obtain ⟨⟨u3, kc3⟩, kz3, hS4, hK4⟩ := hco.out w3 tv3 hS3; have hS4H : Hid _ := hS4; have hB4 : Hid _ := hB3.out.trans hK4; clear hS3 hK3 hS4 hK4 kf2))
        go_roundw
        case rel => exact ⟨m - 1, t.step1, tv3, by omega, by first | go_num | (simp; omega), hS4H, hI1, hE2, hl1, h61, hB4⟩
        case measure => simp [intOf]; omega
end Go.Proofs.Ytcigiilhlealdaa
