/- The program's marker: a cycle ends. -/
import Derived.Test.YtchcdlelaklnnaaKmE
namespace Go.Proofs.Ytchcdlelaklnnaa
set_option linter.unusedVariables false
open Go.ChangeShapes Go.WideShapes Go.ChangeAt Go.RowKit

set_option maxRecDepth 100000 in
set_option maxHeartbeats 2000000 in
theorem dropWhite_calls (w : World) (F : Nat → Prop) (M : Nat) (t : StM) (ps fs : List Nat) (ov tv : Value) (h : ImW w F M t ps fs ov tv) (hl : t.obs.length ≤ 400) :
    Calls Try.prog 75 #[.pointer (some ⟨M, 0, none⟩)] w fun e w' => ∃ gv, e = .returned gv ∧ OutAt w.heap.size w' gv (goneM t.obs) ∧ ImW w' (fun k => F k ∨ gv.ownBlock = some k) M { t with obs := dropK t.obs (therL t.obs) } ps fs ov tv ∧ Keep F w w' := by
  have hH : Hid (ImW w F M t ps fs ov tv) := h
  have hth : Hid (Calls Try.prog 33 #[.pointer (some ⟨M, 0, none⟩)] w fun e w' => ∃ v, e = .returned v ∧ w'.ownsRow w.heap.size 62 1 v (therL t.obs).length (ptrsP ps (therL t.obs)) ∧ Below w.heap.size w w') := there_calls w F M t ps fs ov tv h hl
  have hll : (therL t.obs).length ≤ 400 := Nat.le_trans (therL_len _) hl
  have hll' : ((therL t.obs).length : Int) ≤ 400 := by omega
  obtain ⟨tg, tc, rfl⟩ := own_some h.ow (by omega)
  have hOl : Hid (tg < w.heap.size) := (h.ltO rfl).1
  have hlN : Hid (t.obs.length ≤ 400) := hl
  obtain ⟨i9, hi9, hz9, hs9, hb9⟩ := int_info
  clear h
  go_enter Try.func75, Try.ntmps75
  go_wp2_with (go_at_call 33; refine (show Calls _ _ _ _ _ from hth.out).mono ?_; rintro e w1 ⟨v, rfl, hv, hB⟩; have hvH : Hid _ := hv; have hD0 : Hid (DrW w w1 F M t ps fs (.slice (some ⟨tg, 0, none⟩) (t.obs.length + 1) tc) tv (.slice none 0 0) v []) := ⟨by rw [dropK_nil]; exact (hH.out.below hB).fence (fun k => (Value.slice none 0 0).ownBlock = some k) (fun k q => by simp [Value.ownBlock] at q) (fun q => by simp [Value.ownBlock] at q) (fun p _ q => by simp [Value.ownBlock] at q) (fun p _ q => by simp [Value.ownBlock] at q) (fun k _ q => by simp [Value.ownBlock] at q) (fun k _ q => by simp [Value.ownBlock] at q), out_nil _ _, hv, Keep.of hB hH.out.lo.2, hH.out.lo.2, fun k q => by simp only [Value.ownBlock, Option.some.injEq] at q; subst q; exact hOl.out⟩; obtain ⟨va, vc, rfl⟩ := own_slice hv; clear hv hB)
  go_loopw [3, 9] (fun gv i wr => ∃ m : Nat, m ≤ (therL t.obs).length ∧ i = .int .i64 m ∧ Hid (DrW w wr F M t ps fs (.slice (some ⟨tg, 0, none⟩) (t.obs.length + 1) tc) tv gv (.slice va (therL t.obs).length vc) ((therL t.obs).take m))) (fun _ i _ => (therL t.obs).length - (intOf i).toNat)
  case atStart => exact ⟨0, Nat.zero_le _, rfl, by simpa using hD0⟩
  case round =>
    clear hvH hD0
    obtain ⟨m, hm, rfl, hW⟩ := hrel
    obtain ⟨ga, gc, rfl⟩ := own_slice hW.out.go
    have hm0 : (0 : Int) ≤ m := by omega
    by_cases hlt : m < (therL t.obs).length
    · have hlt' : (m : Int) < ((therL t.obs).length : Int) := by omega
      obtain ⟨g, gc2, e⟩ := own_some hW.out.th (by omega)
      injection e with e1 e2 e3
      subst e1
      obtain ⟨o, hg, hgi⟩ := therL_get (List.getElem_mem hlt)
      have hnt : (therL t.obs)[m] ∉ (therL t.obs).take m := nodup_take (therL_nodup _) hlt
      have hts : (therL t.obs).take (m + 1) = (therL t.obs).take m ++ [(therL t.obs)[m]] := by rw [List.take_add_one, List.getElem?_eq_getElem hlt]; rfl
      have hcur := dropK_cur (ix := (therL t.obs).take m) hg hnt
      have hob := (hW.out.im.ob.get hcur).blk
      rw [show ((((therL t.obs)[m] : Nat) : Int) + 1).toNat - 1 = (therL t.obs)[m] by omega] at hob
      have kp : wr.cell? ⟨g, m, none⟩ = some (.pointer (some ⟨ps.getD ((therL t.obs)[m]) 0, 0, none⟩)) := by
        rw [World.ownsRow.cellAt hW.out.th m (by omega)]
        simp [ptrsP, hlt]
      have hidl : (therL t.obs)[m] < t.obs.length := (List.getElem?_eq_some_iff.1 hgi).1
      have hglen : (goneL t.obs ((therL t.obs).take m)).length ≤ 400 := by
        unfold goneL
        rw [List.length_map]
        have h1 := List.length_filter_le (fun i => whiteAt t.obs i) ((therL t.obs).take m)
        simp at h1
        omega
      by_cases hc : o.col = 1
      · have hwh := hW.out.white hg hnt hc (tg := tg) rfl
        have hstep : Hid (∀ (w3 : World) (gv' : Value) (ob : Obj), ((wr.setCell ⟨tg, (therL t.obs)[m] + 1, none⟩ (.pointer none)).alloc ob).grownBy w3 (Value.slice ga (goneL t.obs ((therL t.obs).take m)).length gc).ownBlock → w3.ownsRow w.heap.size 2 1 gv' ((goneL t.obs ((therL t.obs).take m)).length + 1) (intsV (goneL t.obs ((therL t.obs).take m)) ++ [.int .i64 (((therL t.obs)[m] : Nat) + 1)]) → (gv'.ownBlock = (Value.slice ga (goneL t.obs ((therL t.obs).take m)).length gc).ownBlock ∨ gv'.ownBlock = some ((wr.setCell ⟨tg, (therL t.obs)[m] + 1, none⟩ (.pointer none)).alloc ob).heap.size) → DrW w w3 F M t ps fs (.slice (some ⟨tg, 0, none⟩) (t.obs.length + 1) tc) tv gv' (.slice (some ⟨g, 0, none⟩) (therL t.obs).length vc) ((therL t.obs).take (m + 1))) := fun w3 gv' ob a1 a2 a3 => by rw [hts]; exact hW.out.gone hgi hc hwh a1 a2 a3
        have hgo1 : Hid ((wr.setCell ⟨tg, (therL t.obs)[m] + 1, none⟩ (.pointer none)).ownsRow w.heap.size 2 1 (.slice ga (goneL t.obs ((therL t.obs).take m)).length gc) (goneL t.obs ((therL t.obs).take m)).length (intsV (goneL t.obs ((therL t.obs).take m)))) := hwh.2.1
        have hK1 : Hid (w.heap.size ≤ (wr.setCell ⟨tg, (therL t.obs)[m] + 1, none⟩ (.pointer none)).heap.size) := hwh.2.2.2.size
        have kM1 : wr.cell? ⟨M, 1, none⟩ = some (.slice (some ⟨tg, 0, none⟩) (t.obs.length + 1) tc) := hW.out.im.mode.2.1
        have k0 : wr.cell? ⟨ps.getD ((therL t.obs)[m]) 0, 0, none⟩ = some (.int .i64 (((therL t.obs)[m] : Nat) + 1)) := cell_of hob rfl
        have k2 : wr.cell? ⟨ps.getD ((therL t.obs)[m]) 0, 2, none⟩ = some (.int .i64 1) := by rw [← hc]; exact cell_of hob rfl
        have hoI : (wr.setCell ⟨tg, (therL t.obs)[m] + 1, none⟩ (.pointer none)).cell? ⟨ps.getD ((therL t.obs)[m]) 0, 0, none⟩ = some (.int .i64 (((therL t.obs)[m] : Nat) + 1)) := by
          obtain ⟨_, c2, e⟩ := hW.out.im.ltO (k := tg) rfl
          exact cell_of ((set_other _ (tag_ne hob e (by decide))).trans hob) rfl
        have kz : ∃ u, wr.cell? ⟨tg, (therL t.obs)[m] + 1, none⟩ = some u := by
          have how := hW.out.im.ow
          rw [show ({ t with obs := dropK t.obs ((therL t.obs).take m) } : StM).obs.length = t.obs.length from dropK_length _ _] at how
          exact ⟨_, (World.ownsRow.cellAt how ((therL t.obs)[m] + 1) (by omega)).trans (List.getElem?_eq_getElem (by have := tabP_length ps (dropK t.obs ((therL t.obs).take m)); rw [dropK_length] at this; show _ < (tabP ps (dropK t.obs ((therL t.obs).take m))).length; omega))⟩
        obtain ⟨u, kz⟩ := kz
        have kfz : wr.frozen? ⟨tg, (therL t.obs)[m] + 1, none⟩ = false := by
          obtain ⟨_, c2, e⟩ := hW.out.im.ltO (k := tg) rfl
          exact free_of e
        obtain ⟨zn, hzn⟩ : ∃ zn, zn = (therL t.obs)[m] + 1 := ⟨_, rfl⟩
        have hcast : (((therL t.obs)[m] : Nat) : Int) + 1 = (zn : Int) := by omega
        have hidx : (zn : Int) < (t.obs.length : Int) + 1 := by omega
        rw [hcast, ← hzn] at hstep
        rw [← hzn] at hgo1 hK1 kz kfz
        rw [hcast] at k0
        rw [hcast, ← hzn] at hoI
        clear hcast hzn
        generalize hGG : goneL t.obs ((therL t.obs).take m) = G at *
        generalize ps.getD ((therL t.obs)[m]) 0 = pp at *
        generalize (therL t.obs)[m] = ix at *
        clear hGG hob hcur hwh hW hg hgi hnt hts hc hidl e2 e3
        go_wp2_with fail
        go_still_tail 9, (by kernel_rfl)
        go_upto_region 7 with fail
        have hWd : ∃ W1, W1 = (wr.setCell ⟨tg, zn, none⟩ (.pointer none)).drew := ⟨_, rfl⟩
        obtain ⟨W1, hW1⟩ := hWd
        have hbd : Hid (Below (wr.setCell ⟨tg, zn, none⟩ (.pointer none)).heap.size (wr.setCell ⟨tg, zn, none⟩ (.pointer none)) W1) := by rw [hW1]; exact Below.drew (Below.refl _ _)
        have ho1 : W1.cell? ⟨pp, 0, none⟩ = some (.int .i64 zn) := by rw [hW1]; exact hoI
        have hst1 : Hid (∀ (w3 : World) (gv' : Value) (ob : Obj), (W1.alloc ob).grownBy w3 (Value.slice ga G.length gc).ownBlock → w3.ownsRow w.heap.size 2 1 gv' (G.length + 1) (intsV G ++ [.int .i64 (zn : Int)]) → (gv'.ownBlock = (Value.slice ga G.length gc).ownBlock ∨ gv'.ownBlock = some (W1.alloc ob).heap.size) → DrW w w3 F M t ps fs (.slice (some ⟨tg, 0, none⟩) (t.obs.length + 1) tc) tv gv' (.slice (some ⟨g, 0, none⟩) (therL t.obs).length vc) ((therL t.obs).take (m + 1))) := by
          rw [hW1]
          exact fun w3 gv' ob a1 a2 a3 => hstep.out w3 gv' ob ⟨a1.os, a1.tape, a1.output, a1.size, a1.block⟩ a2 a3
        have hgo2 : Hid (W1.ownsRow w.heap.size 2 1 (.slice ga G.length gc) G.length (intsV G)) := by rw [hW1]; exact hgo1
        have hK2 : Hid (w.heap.size ≤ W1.heap.size) := by rw [hW1]; exact hK1
        rw [← hW1]
        clear hW1 hoI hstep hgo1 hK1 k0 k2 kM1 kz kfz kp hbd
        have hloA : Hid ((W1.alloc (.cells #[.int .i64 (zn : Int)] 2)).ownsRow w.heap.size 2 1 (.slice ga G.length gc) G.length (intsV G)) := own_kept hgo2.out fun k hk => Below.heap_alloc _ _ _ (World.ownsRow.lt hgo2.out k hk).2
        have hsrcA : Hid (SrcAt (W1.alloc (.cells #[.int .i64 (zn : Int)] 2)) 1 (.slice (some ⟨W1.heap.size, 0, none⟩) 1 1) 1 [.int .i64 (zn : Int)]) := src_one W1 _ 2
        have hBs : Hid (w.heap.size ≤ (W1.alloc (.cells #[.int .i64 (zn : Int)] 2)).heap.size) := by have := hK2.out; show _ ≤ _; rw [World.size_alloc]; omega
        clear hgo2 hK2
        go_wp2_with (refine wpList_append_src rfl (.tmp 27) (.tmp 32) 32 rfl w.heap.size 2 i9 (.int .i64 0) 1 8 Try.underlying32 hi9 hz9 hs9 hb9 rfl (by omega) _ G.length (intsV G) rfl hloA.out _ 1 [.int .i64 (zn : Int)] rfl hsrcA.out (by simp [Value.oneCell']) (by unfold maxLen; omega) (by omega) hBs.out (fun gv' w2 hown2 hgrow2 hat2 => ?_); have hnx : Hid _ := hst1.out w2 gv' _ hgrow2 hown2 hat2; obtain ⟨ga', gc', rfl⟩ := own_slice hown2; clear hown2 hgrow2 hat2)
        go_roundw
        case rel => exact ⟨m + 1, by omega, by go_num, hnx⟩
        case measure => simp [intOf]; omega
      · have hnx : Hid (DrW w wr F M t ps fs (.slice (some ⟨tg, 0, none⟩) (t.obs.length + 1) tc) tv (.slice ga (goneL t.obs ((therL t.obs).take m)).length gc) (.slice (some ⟨g, 0, none⟩) (therL t.obs).length vc) ((therL t.obs).take (m + 1))) := by rw [hts]; exact hW.out.left hgi hc
        have k2 : wr.cell? ⟨ps.getD ((therL t.obs)[m]) 0, 2, none⟩ = some (.int .i64 o.col) := cell_of hob rfl
        generalize ps.getD ((therL t.obs)[m]) 0 = pp at kp k2
        clear hob hcur hW hg hgi hnt hts hidl e2 e3
        go_wp2
        go_roundw
        case rel => exact ⟨m + 1, by omega, by go_num, hnx⟩
        case measure => simp [intOf]; omega
    · have hge : ¬ ((m : Int) < ((therL t.obs).length : Int)) := by omega
      have hmE : m = (therL t.obs).length := by omega
      subst hmE
      have hf := hW.out
      rw [List.take_length] at hf
      have hfin : Hid (DrW w wr F M t ps fs (.slice (some ⟨tg, 0, none⟩) (t.obs.length + 1) tc) tv (.slice ga (goneL t.obs (therL t.obs)).length gc) (.slice va (therL t.obs).length vc) (therL t.obs)) := hf
      clear hW hf
      go_wp2
      go_ret
      exact ⟨_, rfl, by rw [← goneL_all]; exact hfin.out.go, hfin.out.im, hfin.out.kp⟩
end Go.Proofs.Ytchcdlelaklnnaa

/- The program's marker: a cycle ends; small words. -/
namespace Go.Proofs.Ytchcdlelaklnnaa
set_option linter.unusedVariables false
open Go.ChangeShapes Go.WideShapes Go.ChangeAt Go.RowKit

theorem drained_len (s : StM) : s.drained.obs.length = s.obs.length := (steps_frame 400 _).2.2.2.trans (pre_frame s).1
/-- Out of a contract on the last three calls. -/
theorem endM_tail {w w2 : World} {F : Nat → Prop} {M : Nat} {s : StM} {ps fs : List Nat} {ov tv gv : Value} {w3 : World} (ho : OutAt w2.heap.size w3 gv (goneM s.drained.obs)) (hw : w.heap.size ≤ w2.heap.size) (h : ImW w3 (fun k => F k ∨ gv.ownBlock = some k) M { s.drained with obs := dropK s.drained.obs (therL s.drained.obs) } ps fs ov tv) (hl : s.obs.length ≤ 400) :
    Calls Try.prog 73 #[.pointer (some ⟨M, 0, none⟩), .int .i64 0] w3 fun e w' => e = .returned (.tuple #[]) ∧ (w'.cell? ⟨M, 10, none⟩ = some (.bool s.drained.cyc) ∧ w'.frozen? ⟨M, 10, none⟩ = false) ∧ ImW (w'.setCell ⟨M, 10, none⟩ (.bool false)) (fun k => F k ∨ gv.ownBlock = some k) M s.fin ps fs ov tv ∧ Keep (fun k => F k ∨ gv.ownBlock = some k) w3 (w'.setCell ⟨M, 10, none⟩ (.bool false)) ∧ OutAt w.heap.size (w'.setCell ⟨M, 10, none⟩ (.bool false)) gv (goneM s.drained.obs) := by
  refine (paint_calls w3 _ M _ ps fs ov tv 0 h (by show (dropK s.drained.obs (therL s.drained.obs)).length ≤ 400; rw [dropK_length, drained_len]; exact hl)).mono ?_
  rintro e w' ⟨rfl, hI, hK⟩
  have hf := hI.flag false
  refine ⟨rfl, ⟨hI.mode.2.2.1, hI.mode.2.2.2.2.2 10⟩, ?_, hK.trans hf.2, ?_⟩
  · have e1 : ({ ({ ({ s.drained with obs := dropK s.drained.obs (therL s.drained.obs) } : StM) with obs := paintM (dropK s.drained.obs (therL s.drained.obs)) 0 } : StM) with cyc := false } : StM) = s.fin := by
      unfold StM.fin
      simp [dropK_paint]
    rw [← e1]
    exact hf.1
  · exact own_mono (own_kept ho fun k q => (hK.trans hf.2).block k (.inr q)) hw
set_option maxRecDepth 100000 in
set_option maxHeartbeats 2000000 in
theorem endM_calls (w : World) (F : Nat → Prop) (M : Nat) (s : StM) (ps fs : List Nat) (ov tv : Value) (h : ImW w F M s ps fs ov tv) (hi : InvM s) (hl : s.obs.length ≤ 400) (h6 : ∀ o ∈ s.obs, o.flds.length ≤ 6) :
    Calls Try.prog 56 #[.pointer (some ⟨M, 0, none⟩)] w fun e w' => ∃ gv, e = .returned gv ∧ OutAt w.heap.size w' gv (goneM s.drained.obs) ∧ (∃ tv', ImW w' (fun k => F k ∨ gv.ownBlock = some k) M s.fin ps fs ov tv') ∧ Keep F w w' := by
  have k0 : w.cell? ⟨M, 0, none⟩ = some (.int .i64 s.mode) := h.mode.1
  have hro : Hid (Calls Try.prog 72 #[.pointer (some ⟨M, 0, none⟩), .slice (some ⟨M, 2, none⟩) 8 8] w fun e w' => e = .returned (.tuple #[]) ∧ (∃ tv', ImW w' F M (s.shades s.roots) ps fs ov tv') ∧ Keep F w w') := rootsM_calls w F M s ps fs ov tv h hi hl
  have hlH : Hid (s.obs.length ≤ 400) := hl
  have hst : Hid (∀ (W : World) (tv' : Value), ImW W F M (if s.mode = 2 then s.shades s.roots else s) ps fs ov tv' → Calls Try.prog 55 #[.pointer (some ⟨M, 0, none⟩), .int .i64 400] W fun e w' => e = .returned (.tuple #[]) ∧ (∃ tv', ImW w' F M s.drained ps fs ov tv') ∧ Keep F W w') := fun W tv' hW => by
    have hP6 : ∀ o ∈ (if s.mode = 2 then s.shades s.roots else s).obs, o.flds.length ≤ 6 := by
      split
      · exact shades_len6 h6 _
      · exact h6
    exact stepM_calls W F M _ ps fs ov tv' 400 hW hi.pre (by rw [(pre_frame s).1]; exact hl) hP6 (by omega)
  have hdw : Hid (∀ (W : World) (tv' : Value), ImW W F M s.drained ps fs ov tv' → Calls Try.prog 75 #[.pointer (some ⟨M, 0, none⟩)] W fun e w' => ∃ gv, e = .returned gv ∧ OutAt W.heap.size w' gv (goneM s.drained.obs) ∧ ImW w' (fun k => F k ∨ gv.ownBlock = some k) M { s.drained with obs := dropK s.drained.obs (therL s.drained.obs) } ps fs ov tv' ∧ Keep F W w') := fun W tv' hW => dropWhite_calls W F M s.drained ps fs ov tv' hW (by rw [drained_len]; exact hl)
  have hH : Hid (ImW w F M s ps fs ov tv) := h
  clear h hi h6
  by_cases hm : s.mode = 2
  · rw [hm] at k0
    have hmH : Hid (s.mode = 2) := hm
    clear hm hH
    go_enter Try.func56, Try.ntmps56
    go_wp2_with (first
      | (go_at_call 72; refine (show Calls _ _ _ _ _ from hro.out).mono ?_; rintro e w1 ⟨rfl, ⟨tv1, hI1⟩, hK1⟩; have hI1H : Hid (ImW w1 F M (if s.mode = 2 then s.shades s.roots else s) ps fs ov tv1) := (by show ImW _ _ _ (if s.mode = 2 then _ else _) _ _ _ _; rw [if_pos hmH.out]; exact hI1); have hK1H : Hid _ := hK1; clear hI1 hK1)
      | (go_at_call 55; refine (show Calls _ _ _ _ _ from hst.out w1 tv1 hI1H.out).mono ?_; rintro e w2 ⟨rfl, ⟨tv2, hI2⟩, hK2⟩; have hI2H : Hid _ := hI2; have hK2H : Hid _ := hK1H.out.trans hK2; clear hI2 hK2)
      | (go_at_call 75; refine (show Calls _ _ _ _ _ from hdw.out w2 tv2 hI2H.out).mono ?_; rintro e w3 ⟨gv, rfl, ho3, hI3, hK3⟩; have ho3H : Hid _ := ho3; have hI3H : Hid _ := hI3; have hK3H : Hid _ := hK2H.out.trans hK3; obtain ⟨ga, gc, rfl⟩ := own_slice ho3; clear ho3 hI3 hK3)
      | (go_at_call 73; refine (endM_tail ho3H.out hK2H.out.size hI3H.out hlH.out).mono ?_; rintro e w4 ⟨rfl, ⟨kc4, kf4⟩, hI4, hK4, ho4⟩; have hI4H : Hid _ := hI4; have hK4H : Hid _ := hK3H.out.trans (hK4.mono fun k q => .inl q); have ho4H : Hid _ := ho4; clear hI4 hK4 ho4))
    go_ret
    exact ⟨_, rfl, ho4H.out, ⟨_, hI4H.out⟩, hK4H.out⟩
  · have hI1H : Hid (ImW w F M (if s.mode = 2 then s.shades s.roots else s) ps fs ov tv) := by
      show ImW _ _ _ (if s.mode = 2 then _ else _) _ _ _ _
      rw [if_neg hm]
      exact hH.out
    clear hH hro
    go_enter Try.func56, Try.ntmps56
    go_wp2_with (first
      | (go_at_call 55; refine (show Calls _ _ _ _ _ from hst.out w tv hI1H.out).mono ?_; rintro e w2 ⟨rfl, ⟨tv2, hI2⟩, hK2⟩; have hI2H : Hid _ := hI2; have hK2H : Hid _ := hK2; clear hI2 hK2)
      | (go_at_call 75; refine (show Calls _ _ _ _ _ from hdw.out w2 tv2 hI2H.out).mono ?_; rintro e w3 ⟨gv, rfl, ho3, hI3, hK3⟩; have ho3H : Hid _ := ho3; have hI3H : Hid _ := hI3; have hK3H : Hid _ := hK2H.out.trans hK3; obtain ⟨ga, gc, rfl⟩ := own_slice ho3; clear ho3 hI3 hK3)
      | (go_at_call 73; refine (endM_tail ho3H.out hK2H.out.size hI3H.out hlH.out).mono ?_; rintro e w4 ⟨rfl, ⟨kc4, kf4⟩, hI4, hK4, ho4⟩; have hI4H : Hid _ := hI4; have hK4H : Hid _ := hK3H.out.trans (hK4.mono fun k q => .inl q); have ho4H : Hid _ := ho4; clear hI4 hK4 ho4))
    go_ret
    exact ⟨_, rfl, ho4H.out, ⟨_, hI4H.out⟩, hK4H.out⟩
set_option maxRecDepth 100000 in
theorem within_calls (n l : Int) (w : World) : Calls Try.prog 71 #[.int .i64 n, .int .i64 l] w fun e w' => e = .returned (.bool (decide (0 ≤ n) && decide (n < l))) ∧ w' = w := by
  by_cases h0 : 0 ≤ n
  · by_cases h8 : n < l
    · have e : (decide (0 ≤ n) && decide (n < l)) = true := by simp [h0, h8]
      rw [e]
      clear e
      go_enter Try.func71, Try.ntmps71
      go_wp2
      go_ret
      exact ⟨rfl, rfl⟩
    · have e : (decide (0 ≤ n) && decide (n < l)) = false := by simp [h0, h8]
      rw [e]
      clear e
      go_enter Try.func71, Try.ntmps71
      go_wp2
      go_ret
      exact ⟨rfl, rfl⟩
  · have e : (decide (0 ≤ n) && decide (n < l)) = false := by simp [h0]
    rw [e]
    clear e
    go_enter Try.func71, Try.ntmps71
    go_wp2
    go_ret
    exact ⟨rfl, rfl⟩
set_option maxRecDepth 100000 in
theorem isRoot_calls (n : Int) (w : World) : Calls Try.prog 69 #[.int .i64 n] w fun e w' => e = .returned (.bool (isR n)) ∧ w' = w := by
  have hw : Hid (Calls Try.prog 71 #[.int .i64 n, .int .i64 8] w fun e w' => e = .returned (.bool (isR n)) ∧ w' = w) := within_calls n 8 w
  go_enter Try.func69, Try.ntmps69
  go_wp2_with (go_at_call 71; refine (show Calls _ _ _ _ _ from hw.out).mono ?_; rintro e w1 ⟨rfl, h⟩; subst h)
  go_ret
  exact ⟨rfl, rfl⟩
set_option maxRecDepth 100000 in
theorem between_calls (n l h : Int) (w : World) : Calls Try.prog 26 #[.int .i64 n, .int .i64 l, .int .i64 h] w fun e w' => e = .returned (.bool (btw n l h)) ∧ w' = w := by
  by_cases h0 : l ≤ n
  · by_cases h8 : n ≤ h
    · have e : btw n l h = true := by simp [btw, h0, h8]
      rw [e]
      clear e
      go_enter Try.func26, Try.ntmps26
      go_wp2
      go_ret
      exact ⟨rfl, rfl⟩
    · have e : btw n l h = false := by simp [btw, h0, h8]
      rw [e]
      clear e
      go_enter Try.func26, Try.ntmps26
      go_wp2
      go_ret
      exact ⟨rfl, rfl⟩
  · have e : btw n l h = false := by simp [btw, h0]
    rw [e]
    clear e
    go_enter Try.func26, Try.ntmps26
    go_wp2
    go_ret
    exact ⟨rfl, rfl⟩
set_option maxRecDepth 100000 in
theorem made_calls (w : World) (F : Nat → Prop) (M : Nat) (s : StM) (ps fs : List Nat) (ov tv : Value) (h : ImW w F M s ps fs ov tv) (hl : s.obs.length ≤ 400) :
    Calls Try.prog 70 #[.pointer (some ⟨M, 0, none⟩)] w fun e w' => e = .returned (.int .i64 s.obs.length) ∧ w' = w := by
  have k1 : w.cell? ⟨M, 1, none⟩ = some ov := h.mode.2.1
  obtain ⟨tg, tc, rfl⟩ := own_some h.ow (by omega)
  have hl' : (s.obs.length : Int) ≤ 400 := by omega
  clear h
  go_enter Try.func70, Try.ntmps70
  go_wp2
  go_ret
  exact ⟨by first | rfl | (simp; done) | (congr 2; omega), rfl⟩
end Go.Proofs.Ytchcdlelaklnnaa
