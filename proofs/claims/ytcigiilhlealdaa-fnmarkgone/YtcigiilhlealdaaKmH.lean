/- The program's marker: a cycle ends. -/
import Derived.Test.YtcigiilhlealdaaKmG
namespace Go.Proofs.Ytcigiilhlealdaa
set_option linter.unusedVariables false
open Go.ChangeShapes Go.WideShapes Go.ChangeAt Go.RowKit

set_option maxRecDepth 100000 in
set_option maxHeartbeats 2000000 in
theorem dropWhite_calls (w : World) (F : Nat → Prop) (M : Nat) (t : StM) (ps fs : List Nat) (ov tv : Value) (h : ImW w F M t ps fs ov tv) (hl : t.obs.length ≤ 400) :
    Calls Try.prog 86 #[.pointer (some ⟨M, 0, none⟩)] w fun e w' => ∃ gv, e = .returned gv ∧ OutAt w.heap.size w' gv (goneM t.obs) ∧ ImW w' (fun k => F k ∨ gv.ownBlock = some k) M { t with obs := dropK t.obs (therL t.obs) } ps fs ov tv ∧ Keep F w w' := by
  have hH : Hid (ImW w F M t ps fs ov tv) := h
  have hth : Hid (Calls Try.prog 59 #[.pointer (some ⟨M, 0, none⟩)] w fun e w' => ∃ v, e = .returned v ∧ w'.ownsRow w.heap.size 67 1 v (therL t.obs).length (ptrsP ps (therL t.obs)) ∧ Below w.heap.size w w') := there_calls w F M t ps fs ov tv h hl
  have hll : (therL t.obs).length ≤ 400 := Nat.le_trans (therL_len _) hl
  have hll' : ((therL t.obs).length : Int) ≤ 400 := by omega
  obtain ⟨tg, tc, rfl⟩ := own_some h.ow (by omega)
  have hOl : Hid (tg < w.heap.size) := (h.ltO rfl).1
  have hlN : Hid (t.obs.length ≤ 400) := hl
  obtain ⟨i9, hi9, hz9, hs9, hb9⟩ := int_info
  clear h
  go_enter Try.func86, Try.ntmps86
  go_wp2_with (go_at_call 59; refine (show Calls _ _ _ _ _ from hth.out).mono ?_; rintro e w1 ⟨v, rfl, hv, hB⟩; have hvH : Hid _ := hv; have hD0 : Hid (DrW w w1 F M t ps fs (.slice (some ⟨tg, 0, none⟩) (t.obs.length + 1) tc) tv (.slice none 0 0) v []) := ⟨by rw [dropK_nil]; exact (hH.out.below hB).fence (fun k => (Value.slice none 0 0).ownBlock = some k) (fun k q => by simp [Value.ownBlock] at q) (fun q => by simp [Value.ownBlock] at q) (fun p _ q => by simp [Value.ownBlock] at q) (fun p _ q => by simp [Value.ownBlock] at q) (fun k _ q => by simp [Value.ownBlock] at q) (fun k _ q => by simp [Value.ownBlock] at q), out_nil _ _, hv, Keep.of hB hH.out.lo.2, hH.out.lo.2, fun k q => by simp only [Value.ownBlock, Option.some.injEq] at q; subst q; exact hOl.out⟩; obtain ⟨va, vc, rfl⟩ := own_slice hv; clear hv hB)
  go_loopw [3, 9] (fun gv i wr => ∃ m : Nat, m ≤ (therL t.obs).length ∧ i = .int .i64 m ∧ Hid (DrW w wr F M t ps fs (.slice (some ⟨tg, 0, none⟩) (t.obs.length + 1) tc) tv gv (.slice va (therL t.obs).length vc) ((therL t.obs).take m))) (fun _ i _ => (therL t.obs).length - (intOf i).toNat)
  case atStart => exact ⟨0, Nat.zero_le _, rfl, by simpa using hD0⟩
  case round =>
    clear hvH hD0
    obtain ⟨m, hm, rfl, hW⟩ := hrel
    obtain ⟨ga, gc, rfl⟩ := own_slice hW.out.go
    have hm0 : (0 : Int) ≤ m := by omega
    by_cases hlt : m < (therL t.obs).length
    · have hlt' : (m : Int) < ((therL t.obs).length : Int) := by omega
      obtain ⟨g, gc2, e⟩ := own_some hW.out.th (by omega)
      injection e with e1 e2 e3
      subst e1
      obtain ⟨o, hg, hgi⟩ := therL_get (List.getElem_mem hlt)
      have hnt : (therL t.obs)[m] ∉ (therL t.obs).take m := nodup_take (therL_nodup _) hlt
      have hts : (therL t.obs).take (m + 1) = (therL t.obs).take m ++ [(therL t.obs)[m]] := by rw [List.take_add_one, List.getElem?_eq_getElem hlt]; rfl
      have hcur := dropK_cur (ix := (therL t.obs).take m) hg hnt
      have hob := (hW.out.im.ob.get hcur).blk
      rw [show ((((therL t.obs)[m] : Nat) : Int) + 1).toNat - 1 = (therL t.obs)[m] by omega] at hob
      have kp : wr.cell? ⟨g, m, none⟩ = some (.pointer (some ⟨ps.getD ((therL t.obs)[m]) 0, 0, none⟩)) := by
        rw [World.ownsRow.cellAt hW.out.th m (by omega)]
        simp [ptrsP, hlt]
      have hidl : (therL t.obs)[m] < t.obs.length := (List.getElem?_eq_some_iff.1 hgi).1
      have hglen : (goneL t.obs ((therL t.obs).take m)).length ≤ 400 := by
        unfold goneL
        rw [List.length_map]
        have h1 := List.length_filter_le (fun i => whiteAt t.obs i) ((therL t.obs).take m)
        simp at h1
        omega
      by_cases hc : o.col = 1
      · have hwh := hW.out.white hg hnt hc (tg := tg) rfl
        have hstep : Hid (∀ (w3 : World) (gv' : Value) (ob : Obj), ((wr.setCell ⟨tg, (therL t.obs)[m] + 1, none⟩ (.pointer none)).alloc ob).grownBy w3 (Value.slice ga (goneL t.obs ((therL t.obs).take m)).length gc).ownBlock → w3.ownsRow w.heap.size 2 1 gv' ((goneL t.obs ((therL t.obs).take m)).length + 1) (intsV (goneL t.obs ((therL t.obs).take m)) ++ [.int .i64 (((therL t.obs)[m] : Nat) + 1)]) → (gv'.ownBlock = (Value.slice ga (goneL t.obs ((therL t.obs).take m)).length gc).ownBlock ∨ gv'.ownBlock = some ((wr.setCell ⟨tg, (therL t.obs)[m] + 1, none⟩ (.pointer none)).alloc ob).heap.size) → DrW w w3 F M t ps fs (.slice (some ⟨tg, 0, none⟩) (t.obs.length + 1) tc) tv gv' (.slice (some ⟨g, 0, none⟩) (therL t.obs).length vc) ((therL t.obs).take (m + 1))) := fun w3 gv' ob a1 a2 a3 => by rw [hts]; exact hW.out.gone hgi hc hwh a1 a2 a3
        have hgo1 : Hid ((wr.setCell ⟨tg, (therL t.obs)[m] + 1, none⟩ (.pointer none)).ownsRow w.heap.size 2 1 (.slice ga (goneL t.obs ((therL t.obs).take m)).length gc) (goneL t.obs ((therL t.obs).take m)).length (intsV (goneL t.obs ((therL t.obs).take m)))) := hwh.2.1
        have hK1 : Hid (w.heap.size ≤ (wr.setCell ⟨tg, (therL t.obs)[m] + 1, none⟩ (.pointer none)).heap.size) := hwh.2.2.2.size
        have kM1 : wr.cell? ⟨M, 1, none⟩ = some (.slice (some ⟨tg, 0, none⟩) (t.obs.length + 1) tc) := hW.out.im.mode.2.1
        have k0 : wr.cell? ⟨ps.getD ((therL t.obs)[m]) 0, 0, none⟩ = some (.int .i64 (((therL t.obs)[m] : Nat) + 1)) := cell_of hob rfl
        have k2 : wr.cell? ⟨ps.getD ((therL t.obs)[m]) 0, 2, none⟩ = some (.int .i64 1) := by rw [← hc]; exact cell_of hob rfl
        have hoI : (wr.setCell ⟨tg, (therL t.obs)[m] + 1, none⟩ (.pointer none)).cell? ⟨ps.getD ((therL t.obs)[m]) 0, 0, none⟩ = some (.int .i64 (((therL t.obs)[m] : Nat) + 1)) := by
          obtain ⟨_, c2, e⟩ := hW.out.im.ltO (k := tg) rfl
          exact cell_of ((set_other _ (tag_ne hob e (by decide))).trans hob) rfl
        have kz : ∃ u, wr.cell? ⟨tg, (therL t.obs)[m] + 1, none⟩ = some u := by
          have how := hW.out.im.ow
          rw [show ({ t with obs := dropK t.obs ((therL t.obs).take m) } : StM).obs.length = t.obs.length from dropK_length _ _] at how
          exact ⟨_, (World.ownsRow.cellAt how ((therL t.obs)[m] + 1) (by omega)).trans (List.getElem?_eq_getElem (by have := tabP_length ps (dropK t.obs ((therL t.obs).take m)); rw [dropK_length] at this; show _ < (tabP ps (dropK t.obs ((therL t.obs).take m))).length; omega))⟩
        obtain ⟨u, kz⟩ := kz
        have kfz : wr.frozen? ⟨tg, (therL t.obs)[m] + 1, none⟩ = false := by
          obtain ⟨_, c2, e⟩ := hW.out.im.ltO (k := tg) rfl
          exact free_of e
        obtain ⟨zn, hzn⟩ : ∃ zn, zn = (therL t.obs)[m] + 1 := ⟨_, rfl⟩
        have hcast : (((therL t.obs)[m] : Nat) : Int) + 1 = (zn : Int) := by omega
        have hidx : (zn : Int) < (t.obs.length : Int) + 1 := by omega
        rw [hcast, ← hzn] at hstep
        rw [← hzn] at hgo1 hK1 kz kfz
        rw [hcast] at k0
        rw [hcast, ← hzn] at hoI
        clear hcast hzn
        generalize hGG : goneL t.obs ((therL t.obs).take m) = G at *
        generalize ps.getD ((therL t.obs)[m]) 0 = pp at *
        generalize (therL t.obs)[m] = ix at *
        clear hGG hob hcur hwh hW hg hgi hnt hts hc hidl e2 e3
        go_wp2_with fail
        go_still_tail 9, (by kernel_rfl)
        go_upto_region 7 with fail
        have hWd : ∃ W1, W1 = (wr.setCell ⟨tg, zn, none⟩ (.pointer none)).drew := ⟨_, rfl⟩
        obtain ⟨W1, hW1⟩ := hWd
        have hbd : Hid (Below (wr.setCell ⟨tg, zn, none⟩ (.pointer none)).heap.size (wr.setCell ⟨tg, zn, none⟩ (.pointer none)) W1) := by rw [hW1]; exact Below.drew (Below.refl _ _)
        have ho1 : W1.cell? ⟨pp, 0, none⟩ = some (.int .i64 zn) := by rw [hW1]; exact hoI
        have hst1 : Hid (∀ (w3 : World) (gv' : Value) (ob : Obj), (W1.alloc ob).grownBy w3 (Value.slice ga G.length gc).ownBlock → w3.ownsRow w.heap.size 2 1 gv' (G.length + 1) (intsV G ++ [.int .i64 (zn : Int)]) → (gv'.ownBlock = (Value.slice ga G.length gc).ownBlock ∨ gv'.ownBlock = some (W1.alloc ob).heap.size) → DrW w w3 F M t ps fs (.slice (some ⟨tg, 0, none⟩) (t.obs.length + 1) tc) tv gv' (.slice (some ⟨g, 0, none⟩) (therL t.obs).length vc) ((therL t.obs).take (m + 1))) := by
          rw [hW1]
          exact fun w3 gv' ob a1 a2 a3 => hstep.out w3 gv' ob ⟨a1.os, a1.tape, a1.output, a1.size, a1.block⟩ a2 a3
        have hgo2 : Hid (W1.ownsRow w.heap.size 2 1 (.slice ga G.length gc) G.length (intsV G)) := by rw [hW1]; exact hgo1
        have hK2 : Hid (w.heap.size ≤ W1.heap.size) := by rw [hW1]; exact hK1
        rw [← hW1]
        clear hW1 hoI hstep hgo1 hK1 k0 k2 kM1 kz kfz kp hbd
        have hloA : Hid ((W1.alloc (.cells #[.int .i64 (zn : Int)] 2)).ownsRow w.heap.size 2 1 (.slice ga G.length gc) G.length (intsV G)) := own_kept hgo2.out fun k hk => Below.heap_alloc _ _ _ (World.ownsRow.lt hgo2.out k hk).2
        have hsrcA : Hid (SrcAt (W1.alloc (.cells #[.int .i64 (zn : Int)] 2)) 1 (.slice (some ⟨W1.heap.size, 0, none⟩) 1 1) 1 [.int .i64 (zn : Int)]) := src_one W1 _ 2
        have hBs : Hid (w.heap.size ≤ (W1.alloc (.cells #[.int .i64 (zn : Int)] 2)).heap.size) := by have := hK2.out; show _ ≤ _; rw [World.size_alloc]; omega
        clear hgo2 hK2
        go_wp2_with (refine wpList_append_src rfl (.tmp 27) (.tmp 32) 31 rfl w.heap.size 2 i9 (.int .i64 0) 1 8 Try.underlying31 hi9 hz9 hs9 hb9 rfl (by omega) _ G.length (intsV G) rfl hloA.out _ 1 [.int .i64 (zn : Int)] rfl hsrcA.out (by simp [Value.oneCell']) (by unfold maxLen; omega) (by omega) hBs.out (fun gv' w2 hown2 hgrow2 hat2 => ?_); have hnx : Hid _ := hst1.out w2 gv' _ hgrow2 hown2 hat2; obtain ⟨ga', gc', rfl⟩ := own_slice hown2; clear hown2 hgrow2 hat2)
        go_roundw
        case rel => exact ⟨m + 1, by omega, by go_num, hnx⟩
        case measure => simp [intOf]; omega
      · have hnx : Hid (DrW w wr F M t ps fs (.slice (some ⟨tg, 0, none⟩) (t.obs.length + 1) tc) tv (.slice ga (goneL t.obs ((therL t.obs).take m)).length gc) (.slice (some ⟨g, 0, none⟩) (therL t.obs).length vc) ((therL t.obs).take (m + 1))) := by rw [hts]; exact hW.out.left hgi hc
        have k2 : wr.cell? ⟨ps.getD ((therL t.obs)[m]) 0, 2, none⟩ = some (.int .i64 o.col) := cell_of hob rfl
        generalize ps.getD ((therL t.obs)[m]) 0 = pp at kp k2
        clear hob hcur hW hg hgi hnt hts hidl e2 e3
        go_wp2
        go_roundw
        case rel => exact ⟨m + 1, by omega, by go_num, hnx⟩
        case measure => simp [intOf]; omega
    · have hge : ¬ ((m : Int) < ((therL t.obs).length : Int)) := by omega
      have hmE : m = (therL t.obs).length := by omega
      subst hmE
      have hf := hW.out
      rw [List.take_length] at hf
      have hfin : Hid (DrW w wr F M t ps fs (.slice (some ⟨tg, 0, none⟩) (t.obs.length + 1) tc) tv (.slice ga (goneL t.obs (therL t.obs)).length gc) (.slice va (therL t.obs).length vc) (therL t.obs)) := hf
      clear hW hf
      go_wp2
      go_ret
      exact ⟨_, rfl, by rw [← goneL_all]; exact hfin.out.go, hfin.out.im, hfin.out.kp⟩
end Go.Proofs.Ytcigiilhlealdaa
