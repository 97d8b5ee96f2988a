/- The specification's heap: a cycle ends (the walk). -/
import Derived.Test.YtchcdlelaklnnaaKsE
namespace Go.Proofs.Ytchcdlelaklnnaa
set_option linter.unusedVariables false
open Go.ChangeShapes Go.WideShapes Go.ChangeAt Go.RowKit

theorem ptr_info : ∃ i0 : TypeInfo, Try.prog.info? 62 = some i0 ∧ i0.zero = some (.pointer none) ∧ i0.size = 1 ∧ i0.bytes = 8 := info_parts (show (Try.prog.info? 62).map (fun i => (i.zero, i.size, i.bytes)) = some (some (.pointer none), 1, 8) by kernel_rfl)
/-- Where the sweep starts. -/
theorem SwW.start {w wr : World} {F : Nat → Prop} {H : Nat} {t : StM} {ps fs : List Nat} {ov : Value} {R : Nat} {qv : Value} (h : SpW wr F H t ps fs ov R qv) (hk : Keep F w wr) (hF : ∀ k, F k → k < w.heap.size) : SwW w ((wr.alloc (.cells #[] 2)).alloc (.cells #[] 62)) F H t ps fs ov R qv (.slice (some ⟨wr.heap.size, 0, none⟩) 0 0) (.slice (some ⟨wr.heap.size + 1, 0, none⟩) 0 0) [] := by
  have s1 : (wr.alloc (.cells #[] 2)).heap.size = wr.heap.size + 1 := World.size_alloc _ _
  have s2 : ((wr.alloc (.cells #[] 2)).alloc (.cells #[] 62)).heap.size = wr.heap.size + 2 := by rw [World.size_alloc, s1]
  have hb : Below wr.heap.size wr ((wr.alloc (.cells #[] 2)).alloc (.cells #[] 62)) := ((Below.refl _ _).alloc (Nat.le_refl _) _).alloc (by omega) _
  have hsz := hk.size
  refine ⟨?_, ?_, ?_, hk.trans (Keep.of hb fun k q => by have := hF k q; omega), hF⟩
  · rw [sweepK_nil]
    refine h.mv (fun k hlt hn => ⟨hb.block k hlt, fun q => ?_⟩) fun k q => ?_
    · rcases q with q | q | q
      · exact hn q
      · simp [Value.ownBlock] at q; omega
      · simp [Value.ownBlock] at q; omega
    · rcases q with q | q | q
      · have := hF k q; omega
      · simp [Value.ownBlock] at q; omega
      · simp [Value.ownBlock] at q; omega
  · have := World.ownsRow_made (w := wr) (e := 2) (size := 1) #[] 0 (Nat.le_refl _) (by unfold maxLen; omega) rfl
    have h2 : ((wr.alloc (.cells #[] 2)).alloc (.cells #[] 62)).ownsRow wr.heap.size 2 1 (.slice (some ⟨wr.heap.size, 0, none⟩) 0 0) 0 [] := own_kept this fun g q => by
      simp [Value.ownBlock] at q
      exact Below.heap_alloc _ _ _ (by omega)
    exact own_mono h2 hsz
  · have := World.ownsRow_made (w := wr.alloc (.cells #[] 2)) (e := 62) (size := 1) #[] 0 (Nat.le_refl _) (by unfold maxLen; omega) rfl
    rw [s1] at this
    exact own_mono this (by omega)
theorem src_one (W1 : World) (u : Value) (t : TypeId) : SrcAt (W1.alloc (.cells #[u] t)) 1 (.slice (some ⟨W1.heap.size, 0, none⟩) 1 1) 1 [u] := .inr ⟨⟨W1.heap.size, 0, none⟩, 1, rfl, rfl, fun j v hj => by
  have hj0 : j = 0 := by have := (List.getElem?_eq_some_iff.1 hj).1; simp at this; omega
  subst hj0
  simp at hj
  subst hj
  rw [Addr.add_lit]
  exact (rangeAt_heap (heap_alloc_new W1 (.cells #[u] t))) 0 _ rfl⟩
set_option maxRecDepth 100000 in
set_option maxHeartbeats 2000000 in
theorem end_calls (w : World) (F : Nat → Prop) (H : Nat) (s : StM) (ps fs : List Nat) (ov : Value) (R : Nat) (qv : Value) (h : SpW w F H s ps fs ov R qv) (hi : InvM s) (hl : s.obs.length ≤ 400) (h6 : ∀ o ∈ s.obs, o.flds.length ≤ 6) :
    Calls Try.prog 47 #[.pointer (some ⟨H, 0, none⟩)] w fun e w' => ∃ gv, e = .returned gv ∧ OutAt w.heap.size w' gv (goneM s.drained.obs) ∧ (∃ ov' qv', SpW w' (fun k => F k ∨ gv.ownBlock = some k) H s.fin ps fs ov' R qv') ∧ Keep F w w' := by
  have hH : Hid (SpW w F H s ps fs ov R qv) := h
  have hF : Hid (∀ k, F k → k < w.heap.size) := h.lo.2.2
  have hro : Hid (Calls Try.prog 68 #[.pointer (some ⟨H, 0, none⟩)] w fun e w' => e = .returned (.tuple #[]) ∧ (∃ qv', SpW w' F H (s.shades s.roots) ps fs ov R qv') ∧ Keep F w w') := roots_calls w F H s ps fs ov R qv h hi hl
  have k0 : w.cell? ⟨H, 0, none⟩ = some (.int .i64 s.mode) := cell_of h.blk rfl
  obtain ⟨i9, hi9, hz9, hs9, hb9⟩ := int_info
  obtain ⟨i8, hi8, hz8, hs8, hb8⟩ := ptr_info
  obtain ⟨P, hPd⟩ : ∃ P, P = (if s.mode = 2 then s.shades s.roots else s) := ⟨_, rfl⟩
  have hPD : Hid (StM.steps 400 P = s.drained) := by show _ = _; rw [hPd]; rfl
  have hPI : Hid (InvM P) := by rw [hPd]; exact hi.pre
  have hPl : P.obs.length = s.obs.length := by rw [hPd]; exact (pre_frame s).1
  have hP6 : Hid (∀ o ∈ P.obs, o.flds.length ≤ 6) := by
    rw [hPd]
    split
    · exact shades_len6 h6 _
    · exact h6
  have hPw : Hid (whites P.obs + P.row.length ≤ 400) := by have := hPI.out.weight; show _ ≤ _; omega
  have key : ∃ b, b = decide (s.mode = 2) := ⟨_, rfl⟩
  have hPlH : Hid (P.obs.length = s.obs.length) := hPl
  clear h hi h6 hPl key
  by_cases hm : s.mode = 2
  · rw [if_pos hm] at hPd
    rw [← hPd] at hro
    rw [hm] at k0
    have hmH : Hid (s.mode = 2) := hm
    clear hm hPd
    go_enter Try.func47, Try.ntmps47
    go_wp2_with (go_at_call 68; refine (show Calls _ _ _ _ _ from hro.out).mono ?_; rintro e W1 ⟨rfl, ⟨qv1, hS1⟩, hB1⟩; have hSP : Hid (SpW W1 F H P ps fs ov R qv1) := hS1; have hBP : Hid (Keep F w W1) := hB1; clear hS1 hB1)
    clear hro k0 hH
    go_loopg [] 400 (fun k wr => ∃ (t : StM) (qv : Value), Hid (SpW wr F H t ps fs ov R qv) ∧ Hid (InvM t) ∧ Hid (StM.steps 400 P = StM.steps k t) ∧ Hid (whites t.obs + t.row.length ≤ k) ∧ Hid (t.obs.length = s.obs.length) ∧ Hid (∀ o ∈ t.obs, o.flds.length ≤ 6) ∧ Hid (Keep F w wr))
    case atStart => exact ⟨P, _, hSP, hPI, rfl, hPw, hPlH, hP6, hBP⟩
    case round =>
      clear hSP hBP hPI hP6 hPw
      obtain ⟨t, qv, hS, hI, hE, hw, htl, h6t, hB⟩ := hrel
      have k4 : wr.cell? ⟨H, 4, none⟩ = some qv := cell_of hS.out.blk rfl
      obtain ⟨qa, qc, rfl⟩ := own_slice hS.out.ro
      have hrow : t.row.length ≤ 400 := by have := hI.out.rowlen; have := htl.out; omega
      have hrow' : (t.row.length : Int) ≤ 400 := by omega
      cases hr : t.row with
      | nil =>
        have hD : Hid (s.drained = t) := by show _ = _; rw [← hPD.out]; exact drained_steps hE.out hr
        rw [hr, List.length_nil] at k4
        obtain ⟨oa, oc, rfl⟩ := own_slice hS.out.ow
        have hrN : Hid (t.row.length = 0) := by rw [hr]; rfl
        clear hE hr hrow hrow' hw hI
        have hW : Hid (SwW w ((wr.alloc (.cells #[] 2)).alloc (.cells #[] 62)) F H t ps fs (.slice oa (therL t.obs).length oc) R (.slice qa 0 qc) (.slice (some ⟨wr.heap.size, 0, none⟩) 0 0) (.slice (some ⟨wr.heap.size + 1, 0, none⟩) 0 0) []) := by
          have h1 := hS.out
          rw [hrN.out] at h1
          exact SwW.start h1 hB.out hF.out
        clear hS
        go_wp2
        have hll : (therL t.obs).length ≤ 400 := by have := therL_len t.obs; have := htl.out; omega
        have hll' : ((therL t.obs).length : Int) ≤ 400 := by omega
        clear hB k4
        generalize ((wr.alloc (.cells #[] 2)).alloc (.cells #[] 62)) = W2 at hW ⊢
        obtain ⟨g0, hg0⟩ : ∃ g0, g0 = Value.slice (some ⟨wr.heap.size, 0, none⟩) 0 0 := ⟨_, rfl⟩
        obtain ⟨l0, hl0⟩ : ∃ l0, l0 = Value.slice (some ⟨wr.heap.size + 1, 0, none⟩) 0 0 := ⟨_, rfl⟩
        rw [← hg0, ← hl0] at hW ⊢
        clear hg0 hl0
        go_loopg [3, 4, 5] (therL t.obs).length (fun k gv lv iv wr => ∃ m : Nat, m ≤ (therL t.obs).length ∧ iv = .int .i64 m ∧ k = (therL t.obs).length - m ∧ Hid (SwW w wr F H t ps fs (.slice oa (therL t.obs).length oc) R (.slice qa 0 qc) gv lv ((therL t.obs).take m)))
        case atStart => exact ⟨0, Nat.zero_le _, rfl, rfl, by simpa using hW⟩
        case round =>
          clear hW
          obtain ⟨m, hm, rfl, hk, hW⟩ := hrel
          obtain ⟨ga, gc, rfl⟩ := own_slice hW.out.go
          obtain ⟨la, lc, rfl⟩ := own_slice hW.out.le
          have hm0 : (0 : Int) ≤ m := by omega
          have hkH : Hid (gk = (therL t.obs).length - m) := hk
          clear hk
          have k1 : wr.cell? ⟨H, 1, none⟩ = some (.slice oa (therL t.obs).length oc) := cell_of hW.out.sp.blk rfl
          by_cases hlt : m < (therL t.obs).length
          · have hlt' : (m : Int) < ((therL t.obs).length : Int) := by omega
            have hrow := hW.out.sp.ow
            rw [show ({ t with obs := sweepK t.obs ((therL t.obs).take m) } : StM).obs = sweepK t.obs ((therL t.obs).take m) from rfl, sweepK_ther] at hrow
            obtain ⟨g, gc2, e⟩ := own_some hrow (by omega)
            injection e with e1 e2 e3
            subst e1
            clear e2 e3
            obtain ⟨o, hg, hgi⟩ := therL_get (List.getElem_mem hlt)
            have hnt := nodup_take (therL_nodup t.obs) hlt
            have hts : (therL t.obs).take (m + 1) = (therL t.obs).take m ++ [(therL t.obs)[m]] := by rw [List.take_add_one, List.getElem?_eq_getElem hlt]; rfl
            have hcur := sweepK_cur (ix := (therL t.obs).take m) hg hnt
            have hob := (hW.out.sp.ob.get hcur).blk
            rw [show ((((therL t.obs)[m] : Nat) : Int) + 1).toNat - 1 = (therL t.obs)[m] by omega] at hob
            have kp : wr.cell? ⟨g, m, none⟩ = some (.pointer (some ⟨ps.getD ((therL t.obs)[m]) 0, 0, none⟩)) := by
              rw [World.ownsRow.cellAt hrow m (by omega)]
              simp [ptrsP, hlt]
            have hlg : (goneL t.obs ((therL t.obs).take m)).length ≤ 400 := by
              have h1 := List.length_filter_le (fun i => whiteAt t.obs i) ((therL t.obs).take m)
              simp only [goneL, List.length_map]
              simp at h1
              omega
            have hlf : (leftL t.obs ((therL t.obs).take m)).length ≤ 400 := by
              have h1 := List.length_filter_le (fun i => !whiteAt t.obs i) ((therL t.obs).take m)
              simp only [leftL]
              simp at h1
              omega
            have hglt : g < wr.heap.size := by obtain ⟨cur, b⟩ := own_tag hrow (k := g) rfl; exact lt_of b
            have hgne : g ≠ ps.getD ((therL t.obs)[m]) 0 := by obtain ⟨cur, b⟩ := own_tag hrow (k := g) rfl; exact tag_ne b hob (by decide)
            have hHne : H ≠ ps.getD ((therL t.obs)[m]) 0 := tag_ne hW.out.sp.blk hob (by decide)
            have kid : wr.cell? ⟨ps.getD ((therL t.obs)[m]) 0, 0, none⟩ = some (.int .i64 ((((therL t.obs)[m] : Nat) : Int) + 1)) := cell_of hob rfl
            have kc : wr.cell? ⟨ps.getD ((therL t.obs)[m]) 0, 2, none⟩ = some (.int .i64 o.col) := cell_of hob rfl
            have kz : wr.frozen? ⟨ps.getD ((therL t.obs)[m]) 0, 2, none⟩ = false := free_of hob
            by_cases hc : o.col = 1
            · have hstep : Hid (∀ w3 gv' ob, (wr.alloc ob).grownBy w3 (Value.slice ga (goneL t.obs ((therL t.obs).take m)).length gc).ownBlock → w3.ownsRow w.heap.size 2 1 gv' ((goneL t.obs ((therL t.obs).take m)).length + 1) (intsV (goneL t.obs ((therL t.obs).take m)) ++ [.int .i64 ((((therL t.obs)[m] : Nat) : Int) + 1)]) → (gv'.ownBlock = (Value.slice ga (goneL t.obs ((therL t.obs).take m)).length gc).ownBlock ∨ gv'.ownBlock = some (wr.alloc ob).heap.size) → SwW w w3 F H t ps fs (.slice (some ⟨g, 0, none⟩) (therL t.obs).length oc) R (.slice qa 0 qc) gv' (.slice la (leftL t.obs ((therL t.obs).take m)).length lc) ((therL t.obs).take (m + 1))) := fun w3 gv' ob a1 a2 a3 => by rw [hts]; exact hW.out.gone hgi hc a1 a2 a3
              have hloA : Hid ((wr.alloc (.cells #[.int .i64 ((((therL t.obs)[m] : Nat) : Int) + 1)] 2)).ownsRow w.heap.size 2 1 (.slice ga (goneL t.obs ((therL t.obs).take m)).length gc) (goneL t.obs ((therL t.obs).take m)).length (intsV (goneL t.obs ((therL t.obs).take m)))) := own_kept hW.out.go fun k hk => Below.heap_alloc _ _ _ (World.ownsRow.lt hW.out.go k hk).2
              have hsrcA : Hid (SrcAt (wr.alloc (.cells #[.int .i64 ((((therL t.obs)[m] : Nat) : Int) + 1)] 2)) 1 (.slice (some ⟨wr.heap.size, 0, none⟩) 1 1) 1 [.int .i64 ((((therL t.obs)[m] : Nat) : Int) + 1)]) := src_one wr _ 2
              have hBs : Hid (w.heap.size ≤ (wr.alloc (.cells #[.int .i64 ((((therL t.obs)[m] : Nat) : Int) + 1)] 2)).heap.size) := by have := hW.out.kp.size; show _ ≤ _; rw [World.size_alloc]; omega
              have hlfH : Hid _ := hlf
              rw [hc] at kc
              generalize (leftL t.obs ((therL t.obs).take m)).length = nl at *
              generalize goneL t.obs ((therL t.obs).take m) = G at *
              generalize ((((therL t.obs)[m] : Nat) : Int) + 1) = iz at *
              generalize ps.getD ((therL t.obs)[m]) 0 = pp at *
              clear hW hob hrow hg hgi hnt hts hcur hc kz hgne hHne hglt
              go_wp2_with (refine wpList_append_src rfl (.tmp 43) (.tmp 54) 32 rfl w.heap.size 2 i9 (.int .i64 0) 1 8 Try.underlying32 hi9 hz9 hs9 hb9 rfl (by omega) _ G.length (intsV G) rfl hloA.out _ 1 [.int .i64 iz] rfl hsrcA.out (by simp [Value.oneCell']) (by unfold maxLen; omega) (by omega) hBs.out (fun gv' w2 hown2 hgrow2 hat2 => ?_); have hnx : Hid _ := hstep.out w2 gv' _ hgrow2 hown2 hat2; obtain ⟨ga', gc', rfl⟩ := own_slice hown2; clear hown2 hgrow2 hat2)
              go_roundg ((therL t.obs).length - (m + 1))
              case rel => exact ⟨m + 1, by omega, by go_num, rfl, hnx⟩
              case measure => have := hkH.out; omega
            · obtain ⟨hcl, _⟩ := hW.out.clear hg hnt hc
              have hstep : Hid (∀ w3 lv' ob, ((wr.setCell ⟨ps.getD ((therL t.obs)[m]) 0, 2, none⟩ (.int .i64 0)).alloc ob).grownBy w3 (Value.slice la (leftL t.obs ((therL t.obs).take m)).length lc).ownBlock → w3.ownsRow w.heap.size 62 1 lv' ((leftL t.obs ((therL t.obs).take m)).length + 1) (ptrsP ps (leftL t.obs ((therL t.obs).take m)) ++ [.pointer (some ⟨ps.getD ((therL t.obs)[m]) 0, 0, none⟩)]) → (lv'.ownBlock = (Value.slice la (leftL t.obs ((therL t.obs).take m)).length lc).ownBlock ∨ lv'.ownBlock = some ((wr.setCell ⟨ps.getD ((therL t.obs)[m]) 0, 2, none⟩ (.int .i64 0)).alloc ob).heap.size) → SwW w w3 F H t ps fs (.slice (some ⟨g, 0, none⟩) (therL t.obs).length oc) R (.slice qa 0 qc) (.slice ga (goneL t.obs ((therL t.obs).take m)).length gc) lv' ((therL t.obs).take (m + 1))) := fun w3 gv' ob a1 a2 a3 => by rw [hts]; exact hW.out.left hg hnt hc a1 a2 a3
              have hcH : Hid (o.col ≠ 1) := hc
              have hleS : (wr.setCell ⟨ps.getD ((therL t.obs)[m]) 0, 2, none⟩ (.int .i64 0)).ownsRow w.heap.size 62 1 (.slice la (leftL t.obs ((therL t.obs).take m)).length lc) (leftL t.obs ((therL t.obs).take m)).length (ptrsP ps (leftL t.obs ((therL t.obs).take m))) := own_kept hW.out.le fun k hk => by
                obtain ⟨cur, b⟩ := own_tag hW.out.le hk
                exact set_other _ (tag_ne b hob (by decide))
              have hsz : (wr.setCell ⟨ps.getD ((therL t.obs)[m]) 0, 2, none⟩ (.int .i64 0)).heap.size = wr.heap.size := by simp [World.setCell]
              have k1' : (wr.setCell ⟨ps.getD ((therL t.obs)[m]) 0, 2, none⟩ (.int .i64 0)).cell? ⟨H, 1, none⟩ = some (.slice (some ⟨g, 0, none⟩) (therL t.obs).length oc) := cell_of hcl.blk rfl
              have kp' : (wr.setCell ⟨ps.getD ((therL t.obs)[m]) 0, 2, none⟩ (.int .i64 0)).cell? ⟨g, m, none⟩ = some (.pointer (some ⟨ps.getD ((therL t.obs)[m]) 0, 0, none⟩)) := (World.cell?_setCell_other _ _ _ _ (fun e => by injection e with e; exact hgne e.symm)).trans kp
              have hszk := hW.out.kp.size
              have hszH : Hid (w.heap.size ≤ (wr.setCell ⟨ps.getD ((therL t.obs)[m]) 0, 2, none⟩ (.int .i64 0)).heap.size) := by show _ ≤ _; omega
              have hleH : Hid _ := hleS
              clear hcl hsz hszk hleS
              clear hW hob hrow hg hgi hnt hts hcur hgne hHne hglt kid
              generalize hGG : goneL t.obs ((therL t.obs).take m) = G at *
              generalize hLL : leftL t.obs ((therL t.obs).take m) = L at *
              clear hGG hLL
              generalize ps.getD ((therL t.obs)[m]) 0 = pp at *
              go_upto_region 13 with fail
              obtain ⟨W1, hW1⟩ : ∃ W1, W1 = wr.setCell ⟨pp, 2, none⟩ (.int .i64 0) := ⟨_, rfl⟩
              rw [← hW1] at hstep k1' kp' hszH hleH ⊢
              clear hW1 k1 kp kc kz hc
              have hloA : Hid ((W1.alloc (.cells #[.pointer (some ⟨pp, 0, none⟩)] 62)).ownsRow w.heap.size 62 1 (.slice la L.length lc) L.length (ptrsP ps L)) := own_kept hleH.out fun k hk => Below.heap_alloc _ _ _ (World.ownsRow.lt hleH.out k hk).2
              have hsrcA : Hid (SrcAt (W1.alloc (.cells #[.pointer (some ⟨pp, 0, none⟩)] 62)) 1 (.slice (some ⟨W1.heap.size, 0, none⟩) 1 1) 1 [.pointer (some ⟨pp, 0, none⟩)]) := src_one W1 _ 62
              have hBs : Hid (w.heap.size ≤ (W1.alloc (.cells #[.pointer (some ⟨pp, 0, none⟩)] 62)).heap.size) := by have := hszH.out; show _ ≤ _; rw [World.size_alloc]; omega
              clear hleH hszH
              go_wp2_with (refine wpList_append_src rfl (.tmp 65) (.tmp 73) 59 rfl w.heap.size 62 i8 (.pointer none) 1 8 Try.underlying59 hi8 hz8 hs8 hb8 rfl (by omega) _ L.length (ptrsP ps L) rfl hloA.out _ 1 [.pointer (some ⟨pp, 0, none⟩)] rfl hsrcA.out (by simp [Value.oneCell']) (by unfold maxLen; omega) (by omega) hBs.out (fun lv' w2 hown2 hgrow2 hat2 => ?_); have hnx : Hid _ := hstep.out w2 lv' _ hgrow2 hown2 hat2; obtain ⟨la', lc', rfl⟩ := own_slice hown2; clear hown2 hgrow2 hat2)
              go_roundg ((therL t.obs).length - (m + 1))
              case rel => exact ⟨m + 1, by omega, by go_num, rfl, hnx⟩
              case measure => have := hkH.out; omega
          · have hge : ¬ ((m : Int) < ((therL t.obs).length : Int)) := by omega
            have hfz1 : wr.frozen? ⟨H, 1, none⟩ = false := free_of hW.out.sp.blk
            have hfz3 : wr.frozen? ⟨H, 3, none⟩ = false := free_of hW.out.sp.blk
            have k3 : wr.cell? ⟨H, 3, none⟩ = some (.bool t.cyc) := cell_of hW.out.sp.blk rfl
            have hfin := hW.out
            rw [List.take_of_length_le (by omega)] at hfin
            have hfinH : Hid _ := hfin.done
            rw [List.take_of_length_le (by omega)] at hW ⊢
            have hD2 : Hid (s.fin = { t with obs := sweepM t.obs, cyc := false } ∧ goneM s.drained.obs = goneM t.obs) := by
              refine ⟨?_, by rw [hD.out]⟩
              unfold StM.fin
              rw [hD.out]
            clear hW hfin
            go_wp2
            go_ret
            exact ⟨_, rfl, by rw [hD2.out.2]; exact hfinH.out.2.1, ⟨_, _, by rw [hD2.out.1]; exact hfinH.out.1⟩, hfinH.out.2.2⟩
      | cons z r =>
        have hk1 : 1 ≤ gk := by have := hw.out; rw [hr] at this; simp at this; omega
        have hE2 : Hid (StM.steps 400 P = StM.steps (gk - 1) t.step1) := by show _ = _; rw [hE.out]; have := steps_succ hr (gk - 1); rwa [show gk - 1 + 1 = gk by omega] at this
        have hI1 : Hid (InvM t.step1) := hI.out.step1
        have hw1 : Hid (whites t.step1.obs + t.step1.row.length ≤ gk - 1) := by have h1 := step1_weight hI.out hr; have := hw.out; show _ ≤ _; omega
        have h61 : Hid (∀ o ∈ t.step1.obs, o.flds.length ≤ 6) := by have := steps_len6 1 h6t.out; rw [steps_succ hr 0] at this; exact this
        have hl1 : Hid (t.step1.obs.length = s.obs.length) := by have := (steps_frame 1 t).2.2.2; rw [steps_succ hr 0] at this; exact this.trans htl.out
        have hst : Hid (Calls Try.prog 46 #[.pointer (some ⟨H, 0, none⟩), .int .i64 1] wr fun e w' => e = .returned (.tuple #[]) ∧ (∃ qv', SpW w' F H t.step1 ps fs ov R qv') ∧ Keep F wr w') := by
          have := step_calls wr F H t ps fs ov R _ 1 hS.out hI.out (by have := htl.out; omega) h6t.out (by omega)
          rw [steps_succ hr 0] at this
          exact this
        have hlen : (0 : Int) < t.row.length := by rw [hr]; simp
        clear hE hr hw hI hS h6t htl
        go_wp2_with (go_at_call 46; refine (show Calls _ _ _ _ _ from hst.out).mono ?_; rintro e w1 ⟨rfl, ⟨qv', hS1⟩, hB1⟩; have hS1H : Hid (SpW w1 F H t.step1 ps fs ov R qv') := hS1; have hB2 : Hid (Keep F w w1) := hB.out.trans hB1; clear hS1 hB1)
        go_roundg (gk - 1)
        case rel => exact ⟨t.step1, qv', hS1H, hI1, hE2, hw1, hl1, h61, hB2⟩
        case measure => omega
  · rw [if_neg hm] at hPd
    have hmn : ¬ (s.mode = 2) := hm
    have hSP : Hid (SpW w F H P ps fs ov R qv) := by rw [hPd]; exact hH
    clear hro hPd
    have hBP : Hid (Keep F w w) := Keep.refl _ _
    go_enter Try.func47, Try.ntmps47
    go_wp2
    clear k0 hH hm hmn
    generalize (s.mode == 2) = qb
    go_loopg [] 400 (fun k wr => ∃ (t : StM) (qv : Value), Hid (SpW wr F H t ps fs ov R qv) ∧ Hid (InvM t) ∧ Hid (StM.steps 400 P = StM.steps k t) ∧ Hid (whites t.obs + t.row.length ≤ k) ∧ Hid (t.obs.length = s.obs.length) ∧ Hid (∀ o ∈ t.obs, o.flds.length ≤ 6) ∧ Hid (Keep F w wr))
    case atStart => exact ⟨P, _, hSP, hPI, rfl, hPw, hPlH, hP6, hBP⟩
    case round =>
      clear hSP hBP hPI hP6 hPw
      obtain ⟨t, qv, hS, hI, hE, hw, htl, h6t, hB⟩ := hrel
      have k4 : wr.cell? ⟨H, 4, none⟩ = some qv := cell_of hS.out.blk rfl
      obtain ⟨qa, qc, rfl⟩ := own_slice hS.out.ro
      have hrow : t.row.length ≤ 400 := by have := hI.out.rowlen; have := htl.out; omega
      have hrow' : (t.row.length : Int) ≤ 400 := by omega
      cases hr : t.row with
      | nil =>
        have hD : Hid (s.drained = t) := by show _ = _; rw [← hPD.out]; exact drained_steps hE.out hr
        rw [hr, List.length_nil] at k4
        obtain ⟨oa, oc, rfl⟩ := own_slice hS.out.ow
        have hrN : Hid (t.row.length = 0) := by rw [hr]; rfl
        clear hE hr hrow hrow' hw hI
        have hW : Hid (SwW w ((wr.alloc (.cells #[] 2)).alloc (.cells #[] 62)) F H t ps fs (.slice oa (therL t.obs).length oc) R (.slice qa 0 qc) (.slice (some ⟨wr.heap.size, 0, none⟩) 0 0) (.slice (some ⟨wr.heap.size + 1, 0, none⟩) 0 0) []) := by
          have h1 := hS.out
          rw [hrN.out] at h1
          exact SwW.start h1 hB.out hF.out
        clear hS
        go_wp2
        have hll : (therL t.obs).length ≤ 400 := by have := therL_len t.obs; have := htl.out; omega
        have hll' : ((therL t.obs).length : Int) ≤ 400 := by omega
        clear hB k4
        generalize ((wr.alloc (.cells #[] 2)).alloc (.cells #[] 62)) = W2 at hW ⊢
        obtain ⟨g0, hg0⟩ : ∃ g0, g0 = Value.slice (some ⟨wr.heap.size, 0, none⟩) 0 0 := ⟨_, rfl⟩
        obtain ⟨l0, hl0⟩ : ∃ l0, l0 = Value.slice (some ⟨wr.heap.size + 1, 0, none⟩) 0 0 := ⟨_, rfl⟩
        rw [← hg0, ← hl0] at hW ⊢
        clear hg0 hl0
        go_loopg [3, 4, 5] (therL t.obs).length (fun k gv lv iv wr => ∃ m : Nat, m ≤ (therL t.obs).length ∧ iv = .int .i64 m ∧ k = (therL t.obs).length - m ∧ Hid (SwW w wr F H t ps fs (.slice oa (therL t.obs).length oc) R (.slice qa 0 qc) gv lv ((therL t.obs).take m)))
        case atStart => exact ⟨0, Nat.zero_le _, rfl, rfl, by simpa using hW⟩
        case round =>
          clear hW
          obtain ⟨m, hm, rfl, hk, hW⟩ := hrel
          obtain ⟨ga, gc, rfl⟩ := own_slice hW.out.go
          obtain ⟨la, lc, rfl⟩ := own_slice hW.out.le
          have hm0 : (0 : Int) ≤ m := by omega
          have hkH : Hid (gk = (therL t.obs).length - m) := hk
          clear hk
          have k1 : wr.cell? ⟨H, 1, none⟩ = some (.slice oa (therL t.obs).length oc) := cell_of hW.out.sp.blk rfl
          by_cases hlt : m < (therL t.obs).length
          · have hlt' : (m : Int) < ((therL t.obs).length : Int) := by omega
            have hrow := hW.out.sp.ow
            rw [show ({ t with obs := sweepK t.obs ((therL t.obs).take m) } : StM).obs = sweepK t.obs ((therL t.obs).take m) from rfl, sweepK_ther] at hrow
            obtain ⟨g, gc2, e⟩ := own_some hrow (by omega)
            injection e with e1 e2 e3
            subst e1
            clear e2 e3
            obtain ⟨o, hg, hgi⟩ := therL_get (List.getElem_mem hlt)
            have hnt := nodup_take (therL_nodup t.obs) hlt
            have hts : (therL t.obs).take (m + 1) = (therL t.obs).take m ++ [(therL t.obs)[m]] := by rw [List.take_add_one, List.getElem?_eq_getElem hlt]; rfl
            have hcur := sweepK_cur (ix := (therL t.obs).take m) hg hnt
            have hob := (hW.out.sp.ob.get hcur).blk
            rw [show ((((therL t.obs)[m] : Nat) : Int) + 1).toNat - 1 = (therL t.obs)[m] by omega] at hob
            have kp : wr.cell? ⟨g, m, none⟩ = some (.pointer (some ⟨ps.getD ((therL t.obs)[m]) 0, 0, none⟩)) := by
              rw [World.ownsRow.cellAt hrow m (by omega)]
              simp [ptrsP, hlt]
            have hlg : (goneL t.obs ((therL t.obs).take m)).length ≤ 400 := by
              have h1 := List.length_filter_le (fun i => whiteAt t.obs i) ((therL t.obs).take m)
              simp only [goneL, List.length_map]
              simp at h1
              omega
            have hlf : (leftL t.obs ((therL t.obs).take m)).length ≤ 400 := by
              have h1 := List.length_filter_le (fun i => !whiteAt t.obs i) ((therL t.obs).take m)
              simp only [leftL]
              simp at h1
              omega
            have hglt : g < wr.heap.size := by obtain ⟨cur, b⟩ := own_tag hrow (k := g) rfl; exact lt_of b
            have hgne : g ≠ ps.getD ((therL t.obs)[m]) 0 := by obtain ⟨cur, b⟩ := own_tag hrow (k := g) rfl; exact tag_ne b hob (by decide)
            have hHne : H ≠ ps.getD ((therL t.obs)[m]) 0 := tag_ne hW.out.sp.blk hob (by decide)
            have kid : wr.cell? ⟨ps.getD ((therL t.obs)[m]) 0, 0, none⟩ = some (.int .i64 ((((therL t.obs)[m] : Nat) : Int) + 1)) := cell_of hob rfl
            have kc : wr.cell? ⟨ps.getD ((therL t.obs)[m]) 0, 2, none⟩ = some (.int .i64 o.col) := cell_of hob rfl
            have kz : wr.frozen? ⟨ps.getD ((therL t.obs)[m]) 0, 2, none⟩ = false := free_of hob
            by_cases hc : o.col = 1
            · have hstep : Hid (∀ w3 gv' ob, (wr.alloc ob).grownBy w3 (Value.slice ga (goneL t.obs ((therL t.obs).take m)).length gc).ownBlock → w3.ownsRow w.heap.size 2 1 gv' ((goneL t.obs ((therL t.obs).take m)).length + 1) (intsV (goneL t.obs ((therL t.obs).take m)) ++ [.int .i64 ((((therL t.obs)[m] : Nat) : Int) + 1)]) → (gv'.ownBlock = (Value.slice ga (goneL t.obs ((therL t.obs).take m)).length gc).ownBlock ∨ gv'.ownBlock = some (wr.alloc ob).heap.size) → SwW w w3 F H t ps fs (.slice (some ⟨g, 0, none⟩) (therL t.obs).length oc) R (.slice qa 0 qc) gv' (.slice la (leftL t.obs ((therL t.obs).take m)).length lc) ((therL t.obs).take (m + 1))) := fun w3 gv' ob a1 a2 a3 => by rw [hts]; exact hW.out.gone hgi hc a1 a2 a3
              have hloA : Hid ((wr.alloc (.cells #[.int .i64 ((((therL t.obs)[m] : Nat) : Int) + 1)] 2)).ownsRow w.heap.size 2 1 (.slice ga (goneL t.obs ((therL t.obs).take m)).length gc) (goneL t.obs ((therL t.obs).take m)).length (intsV (goneL t.obs ((therL t.obs).take m)))) := own_kept hW.out.go fun k hk => Below.heap_alloc _ _ _ (World.ownsRow.lt hW.out.go k hk).2
              have hsrcA : Hid (SrcAt (wr.alloc (.cells #[.int .i64 ((((therL t.obs)[m] : Nat) : Int) + 1)] 2)) 1 (.slice (some ⟨wr.heap.size, 0, none⟩) 1 1) 1 [.int .i64 ((((therL t.obs)[m] : Nat) : Int) + 1)]) := src_one wr _ 2
              have hBs : Hid (w.heap.size ≤ (wr.alloc (.cells #[.int .i64 ((((therL t.obs)[m] : Nat) : Int) + 1)] 2)).heap.size) := by have := hW.out.kp.size; show _ ≤ _; rw [World.size_alloc]; omega
              have hlfH : Hid _ := hlf
              rw [hc] at kc
              generalize (leftL t.obs ((therL t.obs).take m)).length = nl at *
              generalize goneL t.obs ((therL t.obs).take m) = G at *
              generalize ((((therL t.obs)[m] : Nat) : Int) + 1) = iz at *
              generalize ps.getD ((therL t.obs)[m]) 0 = pp at *
              clear hW hob hrow hg hgi hnt hts hcur hc kz hgne hHne hglt
              go_wp2_with (refine wpList_append_src rfl (.tmp 43) (.tmp 54) 32 rfl w.heap.size 2 i9 (.int .i64 0) 1 8 Try.underlying32 hi9 hz9 hs9 hb9 rfl (by omega) _ G.length (intsV G) rfl hloA.out _ 1 [.int .i64 iz] rfl hsrcA.out (by simp [Value.oneCell']) (by unfold maxLen; omega) (by omega) hBs.out (fun gv' w2 hown2 hgrow2 hat2 => ?_); have hnx : Hid _ := hstep.out w2 gv' _ hgrow2 hown2 hat2; obtain ⟨ga', gc', rfl⟩ := own_slice hown2; clear hown2 hgrow2 hat2)
              go_roundg ((therL t.obs).length - (m + 1))
              case rel => exact ⟨m + 1, by omega, by go_num, rfl, hnx⟩
              case measure => have := hkH.out; omega
            · obtain ⟨hcl, _⟩ := hW.out.clear hg hnt hc
              have hstep : Hid (∀ w3 lv' ob, ((wr.setCell ⟨ps.getD ((therL t.obs)[m]) 0, 2, none⟩ (.int .i64 0)).alloc ob).grownBy w3 (Value.slice la (leftL t.obs ((therL t.obs).take m)).length lc).ownBlock → w3.ownsRow w.heap.size 62 1 lv' ((leftL t.obs ((therL t.obs).take m)).length + 1) (ptrsP ps (leftL t.obs ((therL t.obs).take m)) ++ [.pointer (some ⟨ps.getD ((therL t.obs)[m]) 0, 0, none⟩)]) → (lv'.ownBlock = (Value.slice la (leftL t.obs ((therL t.obs).take m)).length lc).ownBlock ∨ lv'.ownBlock = some ((wr.setCell ⟨ps.getD ((therL t.obs)[m]) 0, 2, none⟩ (.int .i64 0)).alloc ob).heap.size) → SwW w w3 F H t ps fs (.slice (some ⟨g, 0, none⟩) (therL t.obs).length oc) R (.slice qa 0 qc) (.slice ga (goneL t.obs ((therL t.obs).take m)).length gc) lv' ((therL t.obs).take (m + 1))) := fun w3 gv' ob a1 a2 a3 => by rw [hts]; exact hW.out.left hg hnt hc a1 a2 a3
              have hcH : Hid (o.col ≠ 1) := hc
              have hleS : (wr.setCell ⟨ps.getD ((therL t.obs)[m]) 0, 2, none⟩ (.int .i64 0)).ownsRow w.heap.size 62 1 (.slice la (leftL t.obs ((therL t.obs).take m)).length lc) (leftL t.obs ((therL t.obs).take m)).length (ptrsP ps (leftL t.obs ((therL t.obs).take m))) := own_kept hW.out.le fun k hk => by
                obtain ⟨cur, b⟩ := own_tag hW.out.le hk
                exact set_other _ (tag_ne b hob (by decide))
              have hsz : (wr.setCell ⟨ps.getD ((therL t.obs)[m]) 0, 2, none⟩ (.int .i64 0)).heap.size = wr.heap.size := by simp [World.setCell]
              have k1' : (wr.setCell ⟨ps.getD ((therL t.obs)[m]) 0, 2, none⟩ (.int .i64 0)).cell? ⟨H, 1, none⟩ = some (.slice (some ⟨g, 0, none⟩) (therL t.obs).length oc) := cell_of hcl.blk rfl
              have kp' : (wr.setCell ⟨ps.getD ((therL t.obs)[m]) 0, 2, none⟩ (.int .i64 0)).cell? ⟨g, m, none⟩ = some (.pointer (some ⟨ps.getD ((therL t.obs)[m]) 0, 0, none⟩)) := (World.cell?_setCell_other _ _ _ _ (fun e => by injection e with e; exact hgne e.symm)).trans kp
              have hszk := hW.out.kp.size
              have hszH : Hid (w.heap.size ≤ (wr.setCell ⟨ps.getD ((therL t.obs)[m]) 0, 2, none⟩ (.int .i64 0)).heap.size) := by show _ ≤ _; omega
              have hleH : Hid _ := hleS
              clear hcl hsz hszk hleS
              clear hW hob hrow hg hgi hnt hts hcur hgne hHne hglt kid
              generalize hGG : goneL t.obs ((therL t.obs).take m) = G at *
              generalize hLL : leftL t.obs ((therL t.obs).take m) = L at *
              clear hGG hLL
              generalize ps.getD ((therL t.obs)[m]) 0 = pp at *
              go_upto_region 13 with fail
              obtain ⟨W1, hW1⟩ : ∃ W1, W1 = wr.setCell ⟨pp, 2, none⟩ (.int .i64 0) := ⟨_, rfl⟩
              rw [← hW1] at hstep k1' kp' hszH hleH ⊢
              clear hW1 k1 kp kc kz hc
              have hloA : Hid ((W1.alloc (.cells #[.pointer (some ⟨pp, 0, none⟩)] 62)).ownsRow w.heap.size 62 1 (.slice la L.length lc) L.length (ptrsP ps L)) := own_kept hleH.out fun k hk => Below.heap_alloc _ _ _ (World.ownsRow.lt hleH.out k hk).2
              have hsrcA : Hid (SrcAt (W1.alloc (.cells #[.pointer (some ⟨pp, 0, none⟩)] 62)) 1 (.slice (some ⟨W1.heap.size, 0, none⟩) 1 1) 1 [.pointer (some ⟨pp, 0, none⟩)]) := src_one W1 _ 62
              have hBs : Hid (w.heap.size ≤ (W1.alloc (.cells #[.pointer (some ⟨pp, 0, none⟩)] 62)).heap.size) := by have := hszH.out; show _ ≤ _; rw [World.size_alloc]; omega
              clear hleH hszH
              go_wp2_with (refine wpList_append_src rfl (.tmp 65) (.tmp 73) 59 rfl w.heap.size 62 i8 (.pointer none) 1 8 Try.underlying59 hi8 hz8 hs8 hb8 rfl (by omega) _ L.length (ptrsP ps L) rfl hloA.out _ 1 [.pointer (some ⟨pp, 0, none⟩)] rfl hsrcA.out (by simp [Value.oneCell']) (by unfold maxLen; omega) (by omega) hBs.out (fun lv' w2 hown2 hgrow2 hat2 => ?_); have hnx : Hid _ := hstep.out w2 lv' _ hgrow2 hown2 hat2; obtain ⟨la', lc', rfl⟩ := own_slice hown2; clear hown2 hgrow2 hat2)
              go_roundg ((therL t.obs).length - (m + 1))
              case rel => exact ⟨m + 1, by omega, by go_num, rfl, hnx⟩
              case measure => have := hkH.out; omega
          · have hge : ¬ ((m : Int) < ((therL t.obs).length : Int)) := by omega
            have hfz1 : wr.frozen? ⟨H, 1, none⟩ = false := free_of hW.out.sp.blk
            have hfz3 : wr.frozen? ⟨H, 3, none⟩ = false := free_of hW.out.sp.blk
            have k3 : wr.cell? ⟨H, 3, none⟩ = some (.bool t.cyc) := cell_of hW.out.sp.blk rfl
            have hfin := hW.out
            rw [List.take_of_length_le (by omega)] at hfin
            have hfinH : Hid _ := hfin.done
            rw [List.take_of_length_le (by omega)] at hW ⊢
            have hD2 : Hid (s.fin = { t with obs := sweepM t.obs, cyc := false } ∧ goneM s.drained.obs = goneM t.obs) := by
              refine ⟨?_, by rw [hD.out]⟩
              unfold StM.fin
              rw [hD.out]
            clear hW hfin
            go_wp2
            go_ret
            exact ⟨_, rfl, by rw [hD2.out.2]; exact hfinH.out.2.1, ⟨_, _, by rw [hD2.out.1]; exact hfinH.out.1⟩, hfinH.out.2.2⟩
      | cons z r =>
        have hk1 : 1 ≤ gk := by have := hw.out; rw [hr] at this; simp at this; omega
        have hE2 : Hid (StM.steps 400 P = StM.steps (gk - 1) t.step1) := by show _ = _; rw [hE.out]; have := steps_succ hr (gk - 1); rwa [show gk - 1 + 1 = gk by omega] at this
        have hI1 : Hid (InvM t.step1) := hI.out.step1
        have hw1 : Hid (whites t.step1.obs + t.step1.row.length ≤ gk - 1) := by have h1 := step1_weight hI.out hr; have := hw.out; show _ ≤ _; omega
        have h61 : Hid (∀ o ∈ t.step1.obs, o.flds.length ≤ 6) := by have := steps_len6 1 h6t.out; rw [steps_succ hr 0] at this; exact this
        have hl1 : Hid (t.step1.obs.length = s.obs.length) := by have := (steps_frame 1 t).2.2.2; rw [steps_succ hr 0] at this; exact this.trans htl.out
        have hst : Hid (Calls Try.prog 46 #[.pointer (some ⟨H, 0, none⟩), .int .i64 1] wr fun e w' => e = .returned (.tuple #[]) ∧ (∃ qv', SpW w' F H t.step1 ps fs ov R qv') ∧ Keep F wr w') := by
          have := step_calls wr F H t ps fs ov R _ 1 hS.out hI.out (by have := htl.out; omega) h6t.out (by omega)
          rw [steps_succ hr 0] at this
          exact this
        have hlen : (0 : Int) < t.row.length := by rw [hr]; simp
        clear hE hr hw hI hS h6t htl
        go_wp2_with (go_at_call 46; refine (show Calls _ _ _ _ _ from hst.out).mono ?_; rintro e w1 ⟨rfl, ⟨qv', hS1⟩, hB1⟩; have hS1H : Hid (SpW w1 F H t.step1 ps fs ov R qv') := hS1; have hB2 : Hid (Keep F w w1) := hB.out.trans hB1; clear hS1 hB1)
        go_roundg (gk - 1)
        case rel => exact ⟨t.step1, qv', hS1H, hI1, hE2, hw1, hl1, h61, hB2⟩
        case measure => omega
end Go.Proofs.Ytchcdlelaklnnaa
