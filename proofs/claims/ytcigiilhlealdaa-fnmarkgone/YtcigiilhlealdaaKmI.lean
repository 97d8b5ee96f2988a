/- The program's marker: a cycle ends; small words. -/
import Derived.Test.YtcigiilhlealdaaKmH
namespace Go.Proofs.Ytcigiilhlealdaa
set_option linter.unusedVariables false
open Go.ChangeShapes Go.WideShapes Go.ChangeAt Go.RowKit

theorem drained_len (s : StM) : s.drained.obs.length = s.obs.length := (steps_frame 400 _).2.2.2.trans (pre_frame s).1
/-- Out of a contract on the last three calls. -/
theorem endM_tail {w w2 : World} {F : Nat → Prop} {M : Nat} {s : StM} {ps fs : List Nat} {ov tv gv : Value} {w3 : World} (ho : OutAt w2.heap.size w3 gv (goneM s.drained.obs)) (hw : w.heap.size ≤ w2.heap.size) (h : ImW w3 (fun k => F k ∨ gv.ownBlock = some k) M { s.drained with obs := dropK s.drained.obs (therL s.drained.obs) } ps fs ov tv) (hl : s.obs.length ≤ 400) :
    Calls Try.prog 84 #[.pointer (some ⟨M, 0, none⟩), .int .i64 0] w3 fun e w' => e = .returned (.tuple #[]) ∧ (w'.cell? ⟨M, 10, none⟩ = some (.bool s.drained.cyc) ∧ w'.frozen? ⟨M, 10, none⟩ = false) ∧ ImW (w'.setCell ⟨M, 10, none⟩ (.bool false)) (fun k => F k ∨ gv.ownBlock = some k) M s.fin ps fs ov tv ∧ Keep (fun k => F k ∨ gv.ownBlock = some k) w3 (w'.setCell ⟨M, 10, none⟩ (.bool false)) ∧ OutAt w.heap.size (w'.setCell ⟨M, 10, none⟩ (.bool false)) gv (goneM s.drained.obs) := by
  refine (paint_calls w3 _ M _ ps fs ov tv 0 h (by show (dropK s.drained.obs (therL s.drained.obs)).length ≤ 400; rw [dropK_length, drained_len]; exact hl)).mono ?_
  rintro e w' ⟨rfl, hI, hK⟩
  have hf := hI.flag false
  refine ⟨rfl, ⟨hI.mode.2.2.1, hI.mode.2.2.2.2.2 10⟩, ?_, hK.trans hf.2, ?_⟩
  · have e1 : ({ ({ ({ s.drained with obs := dropK s.drained.obs (therL s.drained.obs) } : StM) with obs := paintM (dropK s.drained.obs (therL s.drained.obs)) 0 } : StM) with cyc := false } : StM) = s.fin := by
      unfold StM.fin
      simp [dropK_paint]
    rw [← e1]
    exact hf.1
  · exact own_mono (own_kept ho fun k q => (hK.trans hf.2).block k (.inr q)) hw
set_option maxRecDepth 100000 in
set_option maxHeartbeats 2000000 in
theorem endM_calls (w : World) (F : Nat → Prop) (M : Nat) (s : StM) (ps fs : List Nat) (ov tv : Value) (h : ImW w F M s ps fs ov tv) (hi : InvM s) (hl : s.obs.length ≤ 400) (h6 : ∀ o ∈ s.obs, o.flds.length ≤ 6) :
    Calls Try.prog 72 #[.pointer (some ⟨M, 0, none⟩)] w fun e w' => ∃ gv, e = .returned gv ∧ OutAt w.heap.size w' gv (goneM s.drained.obs) ∧ (∃ tv', ImW w' (fun k => F k ∨ gv.ownBlock = some k) M s.fin ps fs ov tv') ∧ Keep F w w' := by
  have k0 : w.cell? ⟨M, 0, none⟩ = some (.int .i64 s.mode) := h.mode.1
  have hro : Hid (Calls Try.prog 83 #[.pointer (some ⟨M, 0, none⟩), .slice (some ⟨M, 2, none⟩) 8 8] w fun e w' => e = .returned (.tuple #[]) ∧ (∃ tv', ImW w' F M (s.shades s.roots) ps fs ov tv') ∧ Keep F w w') := rootsM_calls w F M s ps fs ov tv h hi hl
  have hlH : Hid (s.obs.length ≤ 400) := hl
  have hst : Hid (∀ (W : World) (tv' : Value), ImW W F M (if s.mode = 2 then s.shades s.roots else s) ps fs ov tv' → Calls Try.prog 71 #[.pointer (some ⟨M, 0, none⟩), .int .i64 400] W fun e w' => e = .returned (.tuple #[]) ∧ (∃ tv', ImW w' F M s.drained ps fs ov tv') ∧ Keep F W w') := fun W tv' hW => by
    have hP6 : ∀ o ∈ (if s.mode = 2 then s.shades s.roots else s).obs, o.flds.length ≤ 6 := by
      split
      · exact shades_len6 h6 _
      · exact h6
    exact stepM_calls W F M _ ps fs ov tv' 400 hW hi.pre (by rw [(pre_frame s).1]; exact hl) hP6 (by omega)
  have hdw : Hid (∀ (W : World) (tv' : Value), ImW W F M s.drained ps fs ov tv' → Calls Try.prog 86 #[.pointer (some ⟨M, 0, none⟩)] W fun e w' => ∃ gv, e = .returned gv ∧ OutAt W.heap.size w' gv (goneM s.drained.obs) ∧ ImW w' (fun k => F k ∨ gv.ownBlock = some k) M { s.drained with obs := dropK s.drained.obs (therL s.drained.obs) } ps fs ov tv' ∧ Keep F W w') := fun W tv' hW => dropWhite_calls W F M s.drained ps fs ov tv' hW (by rw [drained_len]; exact hl)
  have hH : Hid (ImW w F M s ps fs ov tv) := h
  clear h hi h6
  by_cases hm : s.mode = 2
  · rw [hm] at k0
    have hmH : Hid (s.mode = 2) := hm
    clear hm hH
    go_enter Try.func72, Try.ntmps72
    go_wp2_with (first
      | (go_at_call 83; refine (show Calls _ _ _ _ _ from hro.out).mono ?_; rintro e w1 ⟨rfl, ⟨tv1, hI1⟩, hK1⟩; have hI1H : Hid (ImW w1 F M (if s.mode = 2 then s.shades s.roots else s) ps fs ov tv1) := (by show ImW _ _ _ (if s.mode = 2 then _ else _) _ _ _ _; rw [if_pos hmH.out]; exact hI1); have hK1H : Hid _ := hK1; clear hI1 hK1)
      | (go_at_call 71; refine (show Calls _ _ _ _ _ from hst.out w1 tv1 hI1H.out).mono ?_; rintro e w2 ⟨rfl, ⟨tv2, hI2⟩, hK2⟩; have hI2H : Hid _ := hI2; have hK2H : Hid _ := hK1H.out.trans hK2; clear hI2 hK2)
      | (go_at_call 86; refine (show Calls _ _ _ _ _ from hdw.out w2 tv2 hI2H.out).mono ?_; rintro e w3 ⟨gv, rfl, ho3, hI3, hK3⟩; have ho3H : Hid _ := ho3; have hI3H : Hid _ := hI3; have hK3H : Hid _ := hK2H.out.trans hK3; obtain ⟨ga, gc, rfl⟩ := own_slice ho3; clear ho3 hI3 hK3)
      | (go_at_call 84; refine (endM_tail ho3H.out hK2H.out.size hI3H.out hlH.out).mono ?_; rintro e w4 ⟨rfl, ⟨kc4, kf4⟩, hI4, hK4, ho4⟩; have hI4H : Hid _ := hI4; have hK4H : Hid _ := hK3H.out.trans (hK4.mono fun k q => .inl q); have ho4H : Hid _ := ho4; clear hI4 hK4 ho4))
    go_ret
    exact ⟨_, rfl, ho4H.out, ⟨_, hI4H.out⟩, hK4H.out⟩
  · have hI1H : Hid (ImW w F M (if s.mode = 2 then s.shades s.roots else s) ps fs ov tv) := by
      show ImW _ _ _ (if s.mode = 2 then _ else _) _ _ _ _
      rw [if_neg hm]
      exact hH.out
    clear hH hro
    go_enter Try.func72, Try.ntmps72
    go_wp2_with (first
      | (go_at_call 71; refine (show Calls _ _ _ _ _ from hst.out w tv hI1H.out).mono ?_; rintro e w2 ⟨rfl, ⟨tv2, hI2⟩, hK2⟩; have hI2H : Hid _ := hI2; have hK2H : Hid _ := hK2; clear hI2 hK2)
      | (go_at_call 86; refine (show Calls _ _ _ _ _ from hdw.out w2 tv2 hI2H.out).mono ?_; rintro e w3 ⟨gv, rfl, ho3, hI3, hK3⟩; have ho3H : Hid _ := ho3; have hI3H : Hid _ := hI3; have hK3H : Hid _ := hK2H.out.trans hK3; obtain ⟨ga, gc, rfl⟩ := own_slice ho3; clear ho3 hI3 hK3)
      | (go_at_call 84; refine (endM_tail ho3H.out hK2H.out.size hI3H.out hlH.out).mono ?_; rintro e w4 ⟨rfl, ⟨kc4, kf4⟩, hI4, hK4, ho4⟩; have hI4H : Hid _ := hI4; have hK4H : Hid _ := hK3H.out.trans (hK4.mono fun k q => .inl q); have ho4H : Hid _ := ho4; clear hI4 hK4 ho4))
    go_ret
    exact ⟨_, rfl, ho4H.out, ⟨_, hI4H.out⟩, hK4H.out⟩
set_option maxRecDepth 100000 in
theorem within_calls (n l : Int) (w : World) : Calls Try.prog 82 #[.int .i64 n, .int .i64 l] w fun e w' => e = .returned (.bool (decide (0 ≤ n) && decide (n < l))) ∧ w' = w := by
  by_cases h0 : 0 ≤ n
  · by_cases h8 : n < l
    · have e : (decide (0 ≤ n) && decide (n < l)) = true := by simp [h0, h8]
      rw [e]
      clear e
      go_enter Try.func82, Try.ntmps82
      go_wp2
      go_ret
      exact ⟨rfl, rfl⟩
    · have e : (decide (0 ≤ n) && decide (n < l)) = false := by simp [h0, h8]
      rw [e]
      clear e
      go_enter Try.func82, Try.ntmps82
      go_wp2
      go_ret
      exact ⟨rfl, rfl⟩
  · have e : (decide (0 ≤ n) && decide (n < l)) = false := by simp [h0]
    rw [e]
    clear e
    go_enter Try.func82, Try.ntmps82
    go_wp2
    go_ret
    exact ⟨rfl, rfl⟩
set_option maxRecDepth 100000 in
theorem isRoot_calls (n : Int) (w : World) : Calls Try.prog 80 #[.int .i64 n] w fun e w' => e = .returned (.bool (isR n)) ∧ w' = w := by
  have hw : Hid (Calls Try.prog 82 #[.int .i64 n, .int .i64 8] w fun e w' => e = .returned (.bool (isR n)) ∧ w' = w) := within_calls n 8 w
  go_enter Try.func80, Try.ntmps80
  go_wp2_with (go_at_call 82; refine (show Calls _ _ _ _ _ from hw.out).mono ?_; rintro e w1 ⟨rfl, h⟩; subst h)
  go_ret
  exact ⟨rfl, rfl⟩
set_option maxRecDepth 100000 in
theorem between_calls (n l h : Int) (w : World) : Calls Try.prog 45 #[.int .i64 n, .int .i64 l, .int .i64 h] w fun e w' => e = .returned (.bool (btw n l h)) ∧ w' = w := by
  by_cases h0 : l ≤ n
  · by_cases h8 : n ≤ h
    · have e : btw n l h = true := by simp [btw, h0, h8]
      rw [e]
      clear e
      go_enter Try.func45, Try.ntmps45
      go_wp2
      go_ret
      exact ⟨rfl, rfl⟩
    · have e : btw n l h = false := by simp [btw, h0, h8]
      rw [e]
      clear e
      go_enter Try.func45, Try.ntmps45
      go_wp2
      go_ret
      exact ⟨rfl, rfl⟩
  · have e : btw n l h = false := by simp [btw, h0]
    rw [e]
    clear e
    go_enter Try.func45, Try.ntmps45
    go_wp2
    go_ret
    exact ⟨rfl, rfl⟩
set_option maxRecDepth 100000 in
theorem made_calls (w : World) (F : Nat → Prop) (M : Nat) (s : StM) (ps fs : List Nat) (ov tv : Value) (h : ImW w F M s ps fs ov tv) (hl : s.obs.length ≤ 400) :
    Calls Try.prog 81 #[.pointer (some ⟨M, 0, none⟩)] w fun e w' => e = .returned (.int .i64 s.obs.length) ∧ w' = w := by
  have k1 : w.cell? ⟨M, 1, none⟩ = some ov := h.mode.2.1
  obtain ⟨tg, tc, rfl⟩ := own_some h.ow (by omega)
  have hl' : (s.obs.length : Int) ≤ 400 := by omega
  clear h
  go_enter Try.func81, Try.ntmps81
  go_wp2
  go_ret
  exact ⟨by first | rfl | (simp; done) | (congr 2; omega), rfl⟩
end Go.Proofs.Ytcigiilhlealdaa
