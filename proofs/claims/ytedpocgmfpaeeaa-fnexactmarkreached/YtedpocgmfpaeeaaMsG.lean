/- spec.MarkReached. -/
import Derived.Test.YtedpocgmfpaeeaaMsP
namespace Go.Proofs.Ytedpocgmfpaeeaa
set_option linter.unusedVariables false
open Go.ChangeShapes Go.WideShapes Go.ChangeAt Go.RowKit

theorem MvW.start (w : World) (row : Array Value) : MvW w (((w.alloc (.cells row 44)).alloc (.cells #[] 2)).alloc (.cells #[] 2)) row.toList (w.heap.size + 1 + 1) 0 0 [] (w.heap.size + 1) 0 [] := by
  have s1 : (w.alloc (.cells row 44)).heap.size = w.heap.size + 1 := World.size_alloc _ _
  have s2 : ((w.alloc (.cells row 44)).alloc (.cells #[] 2)).heap.size = w.heap.size + 2 := by rw [World.size_alloc, s1]
  have s3 : (((w.alloc (.cells row 44)).alloc (.cells #[] 2)).alloc (.cells #[] 2)).heap.size = w.heap.size + 3 := by rw [World.size_alloc, s2]
  refine ⟨(((Below.refl _ _).alloc (Nat.le_refl _) _).alloc (by omega) _).alloc (by omega) _, ?_, by omega, ⟨by omega, by omega, Nat.le_refl _, fun j hj => by simp at hj, fun j hj => by omega⟩, ?_, by omega⟩
  · have h0 : (((w.alloc (.cells row 44)).alloc (.cells #[] 2)).alloc (.cells #[] 2)).heap[w.heap.size]? = some (.cells row 44) := by
      rw [Below.heap_alloc _ _ _ (by omega), Below.heap_alloc _ _ _ (by omega)]
      exact heap_alloc_new w _
    exact rangeAt_heap h0
  · have h1 := World.ownsRow_made (w.alloc (.cells row 44)) (e := 2) #[] 0 (size := 1) (Nat.le_refl _) (by unfold maxLen; omega) rfl
    rw [s1] at h1
    exact own_kept h1 fun g hg => Below.heap_alloc _ _ _ (by
      simp only [Value.ownBlock, Option.some.injEq] at hg
      omega)
/-- What the search weighs, read. -/
def wtV (objs : List MobL) (ov tv : Value) (w : World) : Nat := wtM (intsW ov w) objs + lenV tv
set_option maxRecDepth 100000 in
set_option maxHeartbeats 4000000 in
theorem specMark_yes (x : MhpL) (w : World) (b0 b1 c0 c1 c3 : Nat) (a3 : Option Addr) (hb0 : b0 < w.heap.size) (hb1 : b1 < w.heap.size) (hc0 : x.objs.length ≤ c0) (hob : ∀ W, Below w.heap.size w W → ∀ k (hk : k < x.objs.length), ∃ fb fc, fb < w.heap.size ∧ MobAt W b0 k x.objs[k] fb fc) (hro : ∀ W, Below w.heap.size w W → SrcAt W 1 (.slice (some ⟨b1, 0, none⟩) x.roots.length c1) x.roots.length (intsV x.roots))
    (hsm : x.small) (hy : ¬ (x.roots.length > 8 ∨ x.objs.length > 400)) : Calls Try.prog 15 #[.agg #[.slice (some ⟨b0, 0, none⟩) x.objs.length c0, .slice (some ⟨b1, 0, none⟩) x.roots.length c1, .bool x.cycle, .slice a3 x.row_.length c3]] w fun e w' => ∃ v, e = .returned v ∧ IntsAt w.heap.size w'.heap.size w' v (liveL (x.objs.map gobOf) x.roots) ∧ Below w.heap.size w w' := by
  obtain ⟨i9, hi9, hz9, hs9, hb9⟩ := int_info
  have h1 : ¬ (8 : Int) < x.roots.length := by omega
  have h2 : ¬ (400 : Int) < x.objs.length := by omega
  have h1n : x.roots.length ≤ 8 := by omega
  have h2n : x.objs.length ≤ 400 := by omega
  have hobH : Hid (∀ W, Below w.heap.size w W → ∀ k (hk : k < x.objs.length), ∃ fb fc, fb < w.heap.size ∧ MobAt W b0 k x.objs[k] fb fc) := hob
  have hroH : Hid (∀ W, Below w.heap.size w W → SrcAt W 1 (.slice (some ⟨b1, 0, none⟩) x.roots.length c1) x.roots.length (intsV x.roots)) := hro
  have hsH : Hid (∀ o ∈ x.objs, o.small) := hsm.2.2.2
  have hc0' : (x.objs.length : Int) ≤ c0 := by omega
  obtain ⟨L, hL⟩ : ∃ L, L = liveL (x.objs.map gobOf) x.roots := ⟨_, rfl⟩
  have hLH : Hid (L = liveL (x.objs.map gobOf) x.roots) := hL
  rw [← hL]
  clear hob hro hsm hy hb0 hb1 hL hc0
  go_enter Try.func15, Try.ntmps15
  have hM0 : Hid (MvW w (((w.alloc (.cells #[.slice (some ⟨b0, 0, none⟩) x.objs.length c0, .slice (some ⟨b1, 0, none⟩) x.roots.length c1, .bool x.cycle, .slice a3 x.row_.length c3] 44)).alloc (.cells #[] 2)).alloc (.cells #[] 2)) [.slice (some ⟨b0, 0, none⟩) x.objs.length c0, .slice (some ⟨b1, 0, none⟩) x.roots.length c1, .bool x.cycle, .slice a3 x.row_.length c3] (w.heap.size + 1 + 1) 0 0 [] (w.heap.size + 1) 0 []) := MvW.start w _
  go_upto_region 5 with (refine wpList_append_todo rfl (.tmp 19) (.tmp 21) 23 rfl i9 Try.underlying23 hi9 hz9 hs9 hb9 (w.heap.size + 1) (w.heap.size + 1 + 1) 0 0 [] rfl hM0.out.todo _ x.roots rfl (hroH.out _ hM0.out.hb) hM0.out.bx (by simp; omega) ?_; intro tb to tc WT hT1 hg1 hn1)
  have hMv0 : Hid (MvW w WT [.slice (some ⟨b0, 0, none⟩) x.objs.length c0, .slice (some ⟨b1, 0, none⟩) x.roots.length c1, .bool x.cycle, .slice a3 x.row_.length c3] tb to tc x.roots (w.heap.size + 1) 0 []) := hM0.out.push hg1 (by simpa using hT1) hn1
  have hMr0 : Hid (MrG x.objs x.roots x.roots []) := MrG.start _ _
  have hbd0 : Hid (wtM [] x.objs + x.roots.length ≤ 1000000000) := by have := wtM_le [] x.objs hsH.out; show _ ≤ _; omega
  clear hT1 hg1 hn1 hM0 hroH
  generalize x.roots = st at hMv0 hMr0 hbd0 hLH ⊢
  go_loopw [3, 4] (fun ov tv wr => ∃ tb to tc todo ob oc out, ov = .slice (some ⟨ob, 0, none⟩) (List.length out) oc ∧ tv = .slice (some ⟨tb, to, none⟩) (List.length todo) tc ∧ Hid (MvW w wr [.slice (some ⟨b0, 0, none⟩) x.objs.length c0, .slice (some ⟨b1, 0, none⟩) st.length c1, .bool x.cycle, .slice a3 x.row_.length c3] tb to tc todo ob oc out) ∧ Hid (MrG x.objs st todo out) ∧ Hid (wtM out x.objs + todo.length ≤ 1000000000)) (fun ov tv wr => wtV x.objs ov tv wr)
  case atStart => exact ⟨tb, to, tc, st, _, 0, [], rfl, rfl, hMv0, hMr0, hbd0⟩
  case round =>
    obtain ⟨tb, to, tc, todo, ob, oc, out, rfl, rfl, hMv, hMr, hbd⟩ := hrel
    clear hMv0 hMr0 hbd0
    cases todo with
    | nil =>
      have hfin : Hid (out = L) := by show _ = _; rw [hLH.out]; exact hMr.out.fin
      go_wp2
      go_ret
      rw [← hfin.out]
      exact ⟨_, rfl, out_ints hMv.out.out (by omega), hMv.out.hb⟩
    | cons z todo =>
      have kz : wr.cell? ⟨tb, to, none⟩ = some (.int .i64 z) := hMv.out.todo.cells 0 (by simp)
      have htc : todo.length + 1 ≤ tc := hMv.out.todo.cap
      have htc' : (todo.length : Int) + 1 ≤ tc := by omega
      have htc1 : (1 : Int) ≤ tc := by omega
      have htc2 : (1 : Int) ≤ (todo.length : Int) + 1 := by omega
      go_upto_region 8 with fail
      obtain ⟨to2, ht2, hMv2⟩ : ∃ to2, Hid ((if tc = 1 then some (⟨tb, to, none⟩ : Addr) else some ⟨tb, to + 1, none⟩) = some ⟨tb, to2, none⟩) ∧ Hid (MvW w wr [.slice (some ⟨b0, 0, none⟩) x.objs.length c0, .slice (some ⟨b1, 0, none⟩) st.length c1, .bool x.cycle, .slice a3 x.row_.length c3] tb to2 (tc - 1) todo ob oc out) := by
        by_cases h1 : tc = 1
        · have h2 : todo = [] := List.eq_nil_of_length_eq_zero (by omega)
          subst h2
          subst h1
          exact ⟨to, if_pos rfl, hMv.out.pop0⟩
        · exact ⟨to + 1, if_neg h1, hMv.out.pop⟩
      simp only [ht2.out]
      have hold : Hid (wtV x.objs (.slice (some ⟨ob, 0, none⟩) out.length oc) (.slice (some ⟨tb, to, none⟩) (todo.length + 1) tc) wr = wtM out x.objs + (todo.length + 1)) := by show _ = _; unfold wtV; rw [intsW_eq hMv.out.out]; rfl
      have hol : Hid (out.length ≤ 400) := by have := hMr.out.outlen; show _ ≤ _; omega
      have hbd2 : Hid (wtM out x.objs + todo.length ≤ 1000000000) := by have := hbd.out; simp only [List.length_cons] at this; show _ ≤ _; omega
      clear kz htc htc' htc1 htc2 hbd ht2
      generalize tc - 1 = tc2 at *
      have hhas : Hid (Calls Try.prog 22 #[.slice (some ⟨ob, 0, none⟩) out.length oc, .int .i64 z] wr fun e w' => e = .returned (.bool (decide (z ∈ out))) ∧ w' = wr) := has_calls _ _ z wr _ hMv2.out.out (by have := hol.out; omega)
      by_cases hz0 : z = 0
      · have hMr2 : Hid (MrG x.objs st todo out) := hMr.out.skip (.inl hz0)
        have hlt : Hid (wtV x.objs (.slice (some ⟨ob, 0, none⟩) out.length oc) (.slice (some ⟨tb, to2, none⟩) todo.length tc2) wr < wtV x.objs (.slice (some ⟨ob, 0, none⟩) out.length oc) (.slice (some ⟨tb, to, none⟩) (todo.length + 1) tc) wr) := by show _ < _; rw [hold.out]; unfold wtV; rw [intsW_eq hMv2.out.out]; exact Nat.lt_succ_self _
        subst hz0
        go_wp2
        go_roundw
        case rel => exact ⟨tb, to2, tc2, todo, ob, oc, out, rfl, rfl, hMv2, hMr2, hbd2⟩
        case measure => exact hlt.out
      · by_cases hin : z ∈ out
        · have hMr2 : Hid (MrG x.objs st todo out) := hMr.out.skip (.inr hin)
          have hlt : Hid (wtV x.objs (.slice (some ⟨ob, 0, none⟩) out.length oc) (.slice (some ⟨tb, to2, none⟩) todo.length tc2) wr < wtV x.objs (.slice (some ⟨ob, 0, none⟩) out.length oc) (.slice (some ⟨tb, to, none⟩) (todo.length + 1) tc) wr) := by show _ < _; rw [hold.out]; unfold wtV; rw [intsW_eq hMv2.out.out]; exact Nat.lt_succ_self _
          have hhas1 : Hid (Calls Try.prog 22 #[.slice (some ⟨ob, 0, none⟩) out.length oc, .int .i64 z] wr fun e w' => e = .returned (.bool true) ∧ w' = wr) := by have := hhas.out; rw [decide_eq_true hin] at this; exact this
          clear hhas hin
          go_wp2_with (go_at_call 22; refine (show Calls _ _ _ _ _ from hhas1.out).mono ?_; rintro e w' ⟨rfl, hw⟩; subst hw)
          go_roundw
          case rel => exact ⟨tb, to2, tc2, todo, ob, oc, out, rfl, rfl, hMv2, hMr2, hbd2⟩
          case measure => exact hlt.out
        · have hhas1 : Hid (Calls Try.prog 22 #[.slice (some ⟨ob, 0, none⟩) out.length oc, .int .i64 z] wr fun e w' => e = .returned (.bool false) ∧ w' = wr) := by have := hhas.out; rw [decide_eq_false hin] at this; exact this
          have hMr2 : Hid (MrG x.objs st (todo ++ leadM z x.objs) (outM z out x.objs)) := hMr.out.take hz0 hin
          have hnin : Hid (z ∉ out) := hin
          have hwt : Hid (wtM (outM z out x.objs) x.objs + (todo ++ leadM z x.objs).length = wtM out x.objs + todo.length) := by have := wtM_take out z hin x.objs; show _ = _; rw [List.length_append]; omega
          have hled : Hid ((leadM z x.objs).length ≤ 1000000000 ∧ todo.length ≤ 1000000000) := by have := wtM_take out z hin x.objs; have := hbd2.out; exact ⟨by omega, by omega⟩
          clear hhas hin
          go_wp2_with (go_at_call 22; refine (show Calls _ _ _ _ _ from hhas1.out).mono ?_; rintro e W ⟨rfl, hw⟩; subst hw)
          clear hz0
          generalize (z == 0) = qb
          go_loopw [3, 4, 6] (fun ov tv iv wr => ∃ m tb to tc ob oc td ou, m ≤ x.objs.length ∧ iv = .int .i64 (m : Nat) ∧ ov = .slice (some ⟨ob, 0, none⟩) (List.length ou) oc ∧ tv = .slice (some ⟨tb, to, none⟩) (List.length td) tc ∧ Hid (td = todo ++ leadM z (x.objs.take m)) ∧ Hid (ou = outM z out (x.objs.take m)) ∧ Hid (MvW w wr [.slice (some ⟨b0, 0, none⟩) x.objs.length c0, .slice (some ⟨b1, 0, none⟩) st.length c1, .bool x.cycle, .slice a3 x.row_.length c3] tb to tc td ob oc ou)) (fun _ _ iv _ => x.objs.length - (intOf iv).toNat)
          case atStart => exact ⟨0, tb, to2, tc2, ob, oc, todo, out, Nat.zero_le _, rfl, rfl, rfl, by show _ = _; rw [leadM_zero, List.append_nil], by show _ = _; rw [outM_zero], hMv2⟩
          case round =>
            clear hMv hMr hMv2 hhas1
            obtain ⟨m, tb2, to2, tc2, ob2, oc2, td, ou, hm, rfl, rfl, rfl, htd, hou, hMv⟩ := hrel
            have kW0 : wr.cell? ⟨w.heap.size, 0, none⟩ = some (.slice (some ⟨b0, 0, none⟩) x.objs.length c0) := hMv.out.box 0 _ rfl
            have hm0 : (0 : Int) ≤ m := by omega
            by_cases hlt : m < x.objs.length
            · have hlt' : (m : Int) < (x.objs.length : Int) := by omega
              obtain ⟨fb, fc, hfb, hG⟩ := hobH.out wr hMv.out.hb m hlt
              have e0 : wr.cell? ⟨b0, m * 3, none⟩ = some (.int .i64 x.objs[m].id) := hG.r 0 _ rfl
              have e1 : wr.cell? ⟨b0, m * 3 + 1, none⟩ = some (.slice (some ⟨fb, 0, none⟩) x.objs[m].flds.length fc) := hG.r 1 _ rfl
              by_cases he : ¬ (x.objs[m].id = z)
              · have htd2 : Hid (td = todo ++ leadM z (x.objs.take (m + 1))) := by show _ = _; rw [leadM_skip hlt he]; exact htd.out
                have hou2 : Hid (ou = outM z out (x.objs.take (m + 1))) := by show _ = _; rw [outM_skip hlt he]; exact hou.out
                generalize x.objs[m] = o at *
                clear htd hou hG
                go_wp2
                go_roundw
                case rel => exact ⟨m + 1, tb2, to2, tc2, ob2, oc2, td, ou, by omega, by go_num, rfl, rfl, htd2, hou2, hMv⟩
                case measure => simp [intOf]; omega
              · have he : x.objs[m].id = z := Decidable.not_not.1 he
                have htd2 : Hid (td ++ x.objs[m].flds = todo ++ leadM z (x.objs.take (m + 1))) := by show _ = _; rw [leadM_take hlt, if_pos he, htd.out, List.append_assoc]
                have hou2 : Hid (addI out z = outM z out (x.objs.take (m + 1))) := by show _ = _; rw [outM_hit hlt he]
                have hsrc : Hid (∀ W, Below wr.heap.size wr W → SrcAt W 1 (.slice (some ⟨fb, 0, none⟩) x.objs[m].flds.length fc) x.objs[m].flds.length (intsV x.objs[m].flds)) := fun W hW => by
                  have := src_cells (W := W) (b := fb) (n := 0) (c := 0) (o := 0) (m := 0) (zs := x.objs[m].flds) (fun j hj => (hW.cell (p := ⟨fb, j, none⟩) (show fb < wr.heap.size by have := hMv.out.hb.size; omega)).trans (hG.fl j hj)) (Nat.zero_le _) (fun _ => rfl) fc
                  simpa using this
                have hln : Hid (td.length + x.objs[m].flds.length ≤ 1000000000000) := by
                  have h1 := congrArg List.length htd2.out
                  rw [List.length_append, List.length_append] at h1
                  have h2 := leadM_take_le z x.objs (m + 1)
                  have h3 := hled.out
                  show _ ≤ _
                  omega
                have hoo : Hid (ou = out ∨ ou = addI out z) := by
                  have := hou.out
                  unfold outM at this
                  split at this
                  · exact .inr this
                  · exact .inl this
                have hfc : x.objs[m].flds.length ≤ fc := hG.cap
                have hfc' : (x.objs[m].flds.length : Int) ≤ fc := by omega
                rw [he] at e0
                generalize x.objs[m] = o at *
                clear htd hou hG he hfc
                go_upto_region 14 with (refine wpList_append_todo rfl (.tmp 53) (.tmp 59) 23 rfl i9 Try.underlying23 hi9 hz9 hs9 hb9 (w.heap.size + 1) tb2 to2 tc2 td rfl hMv.out.todo _ o.flds rfl (hsrc.out _ (Below.refl _ _)) hMv.out.bx hln.out ?_; intro b9 o9 c9 W9 hT9 hg9 hn9)
                have hMv9 : Hid (MvW w W9 [.slice (some ⟨b0, 0, none⟩) x.objs.length c0, .slice (some ⟨b1, 0, none⟩) st.length c1, .bool x.cycle, .slice a3 x.row_.length c3] b9 o9 c9 (td ++ o.flds) ob2 oc2 ou) := hMv.out.push hg9 hT9 hn9
                clear hT9 hg9 hn9 hMv hsrc e0 e1 kW0
                rcases hoo.out with hE | hE
                · subst hE
                  have hh : Hid (Calls Try.prog 22 #[.slice (some ⟨ob2, 0, none⟩) ou.length oc2, .int .i64 z] W9 fun e w' => e = .returned (.bool false) ∧ w' = W9) := by have := has_calls _ _ z W9 _ hMv9.out.out (by have := hol.out; omega); rw [decide_eq_false hnin.out] at this; exact this
                  have hAd : Hid (Calls Try.prog 23 #[.slice (some ⟨ob2, 0, none⟩) ou.length oc2, .int .i64 z] W9 fun e w' => (∃ g c, e = .returned (.slice (some ⟨g, 0, none⟩) (ou.length + 1) c) ∧ OutAt W9.heap.size w' (.slice (some ⟨g, 0, none⟩) (ou.length + 1) c) (addI ou z)) ∧ Below W9.heap.size W9 w') := add_some ob2 oc2 ou z W9 _ hMv9.out.out (by have := hol.out; omega)
                  go_wp2_with (first
                    | (go_at_call 22; refine (show Calls _ _ _ _ _ from hh.out).mono ?_; rintro e w' ⟨rfl, hw⟩; subst hw)
                    | (go_at_call 23; refine (show Calls _ _ _ _ _ from hAd.out).mono ?_; rintro e WA ⟨⟨ga, ca, rfl, hoA⟩, hbA⟩))
                  have hMvA : Hid (MvW w WA [.slice (some ⟨b0, 0, none⟩) x.objs.length c0, .slice (some ⟨b1, 0, none⟩) st.length c1, .bool x.cycle, .slice a3 x.row_.length c3] b9 o9 c9 (td ++ o.flds) ga ca (addI ou z)) := hMv9.out.add hbA (by rw [addI_length]; exact hoA)
                  clear hoA hbA hh hAd hMv9
                  go_roundw
                  case rel => exact ⟨m + 1, b9, o9, c9, ga, ca, td ++ o.flds, addI ou z, by omega, by go_num, by rw [addI_length], by rw [List.length_append], htd2, hou2, hMvA⟩
                  case measure => simp [intOf]; omega
                · have hh : Hid (Calls Try.prog 22 #[.slice (some ⟨ob2, 0, none⟩) ou.length oc2, .int .i64 z] W9 fun e w' => e = .returned (.bool true) ∧ w' = W9) := by have := has_calls _ _ z W9 _ hMv9.out.out (by have := hol.out; rw [hE, addI_length]; omega); rw [decide_eq_true (by rw [hE]; exact mem_addI.2 (.inl rfl))] at this; exact this
                  have hou3 : Hid (ou = outM z out (x.objs.take (m + 1))) := hE.trans hou2.out
                  clear hE
                  go_wp2_with (go_at_call 22; refine (show Calls _ _ _ _ _ from hh.out).mono ?_; rintro e w' ⟨rfl, hw⟩; subst hw)
                  go_roundw
                  case rel => exact ⟨m + 1, b9, o9, c9, ob2, oc2, td ++ o.flds, ou, by omega, by go_num, rfl, by rw [List.length_append], htd2, hou3, hMv9⟩
                  case measure => simp [intOf]; omega
            · have hge : ¬ ((m : Int) < (x.objs.length : Int)) := by omega
              have hmE : m = x.objs.length := by omega
              have htdE : td = todo ++ leadM z x.objs := by have := htd.out; rwa [hmE, List.take_length] at this
              have houE : ou = outM z out x.objs := by have := hou.out; rwa [hmE, List.take_length] at this
              have hnew : Hid (wtV x.objs (.slice (some ⟨ob2, 0, none⟩) ou.length oc2) (.slice (some ⟨tb2, to2, none⟩) td.length tc2) wr < wtV x.objs (.slice (some ⟨ob, 0, none⟩) out.length oc) (.slice (some ⟨tb, to, none⟩) (todo.length + 1) tc) W) := by
                have h1 := hwt.out
                rw [← htdE, ← houE] at h1
                show _ < _
                rw [hold.out]
                unfold wtV
                rw [intsW_eq hMv.out.out]
                show wtM ou x.objs + td.length < _
                omega
              have hbd3 : Hid (wtM ou x.objs + td.length ≤ 1000000000) := by
                have h1 := hwt.out
                rw [← htdE, ← houE] at h1
                have h2 := hbd2.out
                show _ ≤ _
                omega
              have hMr3 : Hid (MrG x.objs st td ou) := by have := hMr2.out; rw [← htdE, ← houE] at this; exact this
              clear htdE houE hwt hMr2 htd hou hmE hold
              go_wp2
              go_roundw
              case rel => exact ⟨tb2, to2, tc2, td, ob2, oc2, ou, rfl, rfl, hMv, hMr3, hbd3⟩
              case measure => exact hnew.out
set_option maxRecDepth 100000 in
set_option maxHeartbeats 4000000 in
theorem specMark_calls (x : MhpL) (w : World) (row : List Value) (lo hi : Nat) (hhi : hi ≤ w.heap.size) (h : MhpO lo hi w row x) (hsm : x.small) : Calls Try.prog 15 #[.agg row.toArray] w fun e w' => ∃ v, e = .returned v ∧ IntsAt w.heap.size w'.heap.size w' v (markOf x) ∧ Below w.heap.size w w' := by
  obtain ⟨v0, v1, v3, rfl, g0, g1, g3⟩ := h
  obtain ⟨b0, c0, rfl, hc0, hb0, hob⟩ := mobs_cells g0
  obtain ⟨b1, c1, rfl, hc1, hb1, hro⟩ := ints_cells g1
  obtain ⟨a3, c3, rfl⟩ := g3.form
  unfold markOf
  have hfin : Hid (Below w.heap.size w ((w.alloc (.cells #[.slice (some ⟨b0, 0, none⟩) x.objs.length c0, .slice (some ⟨b1, 0, none⟩) x.roots.length c1, .bool x.cycle, .slice a3 x.row_.length c3] 44)).alloc (.cells #[] 2))) := (below_1 _ _).alloc (by simp) _
  by_cases h1 : x.roots.length > 8
  · have h1' : (8 : Int) < x.roots.length := by omega
    rw [if_pos (.inl h1)]
    clear hob hro g0 g1 g3
    go_enter Try.func15, Try.ntmps15
    go_wp2
    go_ret
    exact ⟨_, rfl, .inl ⟨rfl, _, 0, rfl⟩, hfin.out⟩
  · have h1' : ¬ (8 : Int) < x.roots.length := by omega
    by_cases h2 : x.objs.length > 400
    · have h2' : (400 : Int) < x.objs.length := by omega
      rw [if_pos (.inr h2)]
      clear hob hro g0 g1 g3
      go_enter Try.func15, Try.ntmps15
      go_wp2
      go_ret
      exact ⟨_, rfl, .inl ⟨rfl, _, 0, rfl⟩, hfin.out⟩
    · rw [if_neg (by omega)]
      refine specMark_yes x w b0 b1 c0 c1 c3 a3 (by omega) (by omega) hc0 (fun W hW k hk => ?_) (fun W hW => ?_) hsm (by omega)
      · obtain ⟨fb, fc, hfb, hM⟩ := hob k hk
        exact ⟨fb, fc, by omega, hM.below hW (by omega) (by omega)⟩
      · have := src_cells (W := W) (b := b1) (n := 0) (c := 0) (o := 0) (m := 0) (zs := x.roots) (fun j hj => (hW.cell (p := ⟨b1, j, none⟩) (show b1 < w.heap.size by omega)).trans (hro j hj)) (Nat.zero_le _) (fun _ => rfl) c1
        simpa using this
end Go.Proofs.Ytedpocgmfpaeeaa
