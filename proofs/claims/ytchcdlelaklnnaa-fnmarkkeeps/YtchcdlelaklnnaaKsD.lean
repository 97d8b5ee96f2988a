/- The specification's heap: steps. -/
import Derived.Test.YtchcdlelaklnnaaKsA
namespace Go.Proofs.Ytchcdlelaklnnaa
set_option linter.unusedVariables false
open Go.ChangeShapes Go.WideShapes Go.ChangeAt Go.RowKit

/-- Another row. -/
theorem SpW.newRow {w w3 : World} {F : Nat → Prop} {H R : Nat} {s : StM} {ps fs : List Nat} {ov qv qv' : Value} {r : List Int} (h : SpW w F H s ps fs ov R qv) (hb : Below w.heap.size w w3) (ho : w3.ownsRow w.heap.size 2 1 qv' r.length (intsV r)) :
    SpW (w3.setCell ⟨H, 4, none⟩ qv') F H { s with row := r } ps fs ov R qv' ∧ Keep F w (w3.setCell ⟨H, 4, none⟩ qv') ∧ w3.cell? ⟨H, 4, none⟩ = some qv ∧ w3.frozen? ⟨H, 4, none⟩ = false := by
  have s2 := hb.size
  have kp : ∀ k, k < w.heap.size → w3.heap[k]? = w.heap[k]? := fun k hk => hb.block k hk
  have kH := (kp H (lt_of h.blk)).trans h.blk
  have hnew : ∀ k, k < w.heap.size → qv'.ownBlock ≠ some k := fun k hk q => by have := (World.ownsRow.lt ho k q).1; omega
  have kp2 : ∀ k, k < w.heap.size → k ≠ H → (w3.setCell ⟨H, 4, none⟩ qv').heap[k]? = w.heap[k]? := fun k hk hH => by
    rw [set_other _ hH]
    exact kp k hk
  have hob := h.ob.kept (w' := w3.setCell ⟨H, 4, none⟩ qv') fun k cs t a b => kp2 k (lt_of a) (tag_ne a h.blk (by rcases b with b | b; rw [b]; decide; rw [b.1]; decide))
  refine ⟨⟨hob, ?_, ?_, ?_, ?_, h.n1, hnew R (lt_of h.rt), ?_, ⟨h.lo.1, h.lo.2.1, fun k q => by have := h.lo.2.2 k q; simp [World.setCell]; omega⟩, ⟨h.fo.1, fun k q r => hnew k (h.lo.2.2 k r) q⟩⟩, ?_, cell_of kH rfl, free_of kH⟩
  · rw [set_same _ kH]
    rfl
  · exact own_kept h.ow fun k q => by
      obtain ⟨cur, b⟩ := own_tag h.ow q
      exact kp2 k (lt_of b) (tag_ne b h.blk (by decide))
  · rw [kp2 R (lt_of h.rt) (tag_ne h.rt h.blk (by decide))]
    exact h.rt
  · have h1 : (w3.setCell ⟨H, 4, none⟩ qv').ownsRow w.heap.size 2 1 qv' r.length (intsV r) := own_kept ho fun k q => by
      obtain ⟨cur, b⟩ := own_tag ho q
      exact set_other _ (tag_ne b kH (by decide))
    exact own_mono h1 (Nat.zero_le _)
  · intro f hf
    obtain ⟨i, hi, e⟩ := List.mem_iff_getElem.1 hf
    have hi2 : i < s.obs.length := by rw [← h.ob.lf]; exact hi
    have b := (h.ob.at_ i _ (List.getElem?_eq_getElem hi2)).row
    rw [List.getD_eq_getElem?_getD, List.getElem?_eq_getElem hi] at b
    rw [← e]
    exact hnew _ (lt_of b)
  · refine ⟨hb.os, hb.tape, hb.output, by simp [World.setCell]; omega, fun k hk => ?_⟩
    exact kp2 k (h.lo.2.2 k hk) (fun e => h.lo.1 (e ▸ hk))
theorem src_tail {w : World} {q n c : Nat} {z : Int} {r : List Int} (h : OutAt 0 w (.slice (some ⟨q, 0, none⟩) n c) (z :: r)) {W : World} (hW : Below w.heap.size w W) (o cc : Nat) (ho : r ≠ [] → o = 1) : SrcAt W 1 (.slice (some ⟨q, o, none⟩) r.length cc) r.length (intsV r) := by
  refine .inr ⟨⟨q, o, none⟩, cc, rfl, intsV_length r, fun j u hj => ?_⟩
  have hjl : j < r.length := by have := (List.getElem?_eq_some_iff.1 hj).1; simpa [intsV] using this
  obtain rfl := ho (fun e => by rw [e] at hjl; simp at hjl)
  have h2 := (OutAt.cell (h.below hW) (j := j + 1) (by simp; omega))
  rw [Addr.add_lit]
  rw [show 1 + j = j + 1 by omega]
  rw [h2]
  have := (List.getElem?_eq_some_iff.1 hj).2
  rw [← this]
  simp [intsV]
theorem steps_nil {t : StM} (h : t.row = []) : ∀ m, StM.steps m t = t
  | 0 => rfl
  | m + 1 => by unfold StM.steps; rw [h]
theorem steps_succ {t : StM} {z : Int} {r : List Int} (h : t.row = z :: r) (m : Nat) : StM.steps (m + 1) t = StM.steps m t.step1 := by
  show (match t.row with | [] => t | _ :: _ => StM.steps m t.step1) = _
  rw [h]
theorem wpList_append_new {wr : World} {ops : Array Oper} {rest : List Oper} {o : Oper} {a : Act} {Q : Exit → Act → World → Prop} (hgd : o.guard = none) (s x : Operand) (ho : o.op = .call { callee := .builtin .append, args := #[s, x], argTypes := #[32, 32] })
    (hs : a.eval s = .slice (some ⟨wr.heap.size, 0, none⟩) 0 0) (xv : Value) (r : List Int) (hx : a.eval x = xv) (hsrc : SrcAt (wr.alloc (.cells #[] 2)) 1 xv r.length (intsV r)) (hl : r.length ≤ 1048576)
    (h : ∀ v' w', w'.ownsRow wr.heap.size 2 1 v' r.length (intsV r) → Below wr.heap.size wr w' → wpList Try.prog ops Q rest (a.put o.dst v') w') : wpList Try.prog ops Q (o :: rest) a (wr.alloc (.cells #[] 2)) := by
  obtain ⟨i9, hi9, hz9, hs9, hb9⟩ := int_info
  refine wpList_append_src0 hgd s x 32 ho 2 i9 (.int .i64 0) 1 8 Try.underlying32 hi9 hz9 hs9 hb9 rfl (by omega) wr.heap.size hs xv r.length (intsV r) hx hsrc (intsV_one _) (by unfold maxLen; omega) (by omega) (fun m0 n0 => ?_) (fun v' w' hown hg => ?_)
  · refine h _ _ ?_ (below_1 _ _)
    rw [m0, n0]
    exact World.ownsRow_made wr #[] 0 (Nat.le_refl _) (by unfold maxLen; omega) rfl
  · refine h v' w' (own_mono hown (by rw [World.size_alloc]; omega)) ?_
    exact (below_1 _ _).grown hg (by rw [World.size_alloc]; omega) (fun j hj => by cases hj)
set_option maxRecDepth 100000 in
set_option maxHeartbeats 2000000 in
theorem step_calls (w : World) (F : Nat → Prop) (H : Nat) (s : StM) (ps fs : List Nat) (ov : Value) (R : Nat) (qv : Value) (n : Nat) (h : SpW w F H s ps fs ov R qv) (hi : InvM s) (hl : s.obs.length ≤ 400) (h6 : ∀ o ∈ s.obs, o.flds.length ≤ 6) (hn : n ≤ 1000) :
    Calls Try.prog 46 #[.pointer (some ⟨H, 0, none⟩), .int .i64 n] w fun e w' => e = .returned (.tuple #[]) ∧ (∃ qv', SpW w' F H (StM.steps n s) ps fs ov R qv') ∧ Keep F w w' := by
  have hH : Hid (SpW w F H s ps fs ov R qv) := h
  have hiH : Hid (InvM s) := hi
  have h6H : Hid (∀ o ∈ s.obs, o.flds.length ≤ 6) := h6
  clear h6
  obtain ⟨i9, hi9, hz9, hs9, hb9⟩ := int_info
  clear h hi
  go_enter Try.func46, Try.ntmps46
  go_wp2
  go_loopw [1] (fun nv wr => ∃ (m : Nat) (t : StM) (qv : Value), m ≤ n ∧ nv = .int .i64 m ∧ Hid (SpW wr F H t ps fs ov R qv) ∧ Hid (InvM t) ∧ Hid (StM.steps n s = StM.steps m t) ∧ t.obs.length = s.obs.length ∧ Hid (∀ o ∈ t.obs, o.flds.length ≤ 6) ∧ Hid (Keep F w wr)) (fun nv _ => (intOf nv).toNat)
  case atStart => exact ⟨n, s, qv, Nat.le_refl _, rfl, hH, hiH, rfl, rfl, h6H, Keep.refl _ _⟩
  case round =>
    obtain ⟨m, t, qv, hm, rfl, hS, hI, hE, htl, h6t, hB⟩ := hrel
    have k4 : wr.cell? ⟨H, 4, none⟩ = some qv := cell_of hS.out.blk rfl
    obtain ⟨qa, qc, rfl⟩ := own_slice hS.out.ro
    have hrow : t.row.length ≤ 400 := by have := hI.out.rowlen; omega
    have hrow' : (t.row.length : Int) ≤ 400 := by omega
    by_cases hm0 : m = 0
    · subst hm0
      have hfin : Hid (StM.steps n s = t) := hE.out
      go_wp2
      first | (refine bodyPost_ret (results_none rfl _ _ _) rfl ?_) | go_end0
      exact ⟨rfl, ⟨_, by rw [hfin.out]; exact hS.out⟩, hB.out⟩
    · have hm1 : (0 : Int) < m := by omega
      have hm2 : (m : Int) ≤ 1000 := by omega
      have htlH : Hid (t.obs.length = s.obs.length) := htl
      clear htl
      cases hr : t.row with
      | nil =>
        have hfin : Hid (StM.steps n s = t) := by show _ = _; rw [hE.out, steps_nil hr]
        rw [hr, List.length_nil] at k4
        clear hE hr hrow hrow'
        go_wp2
        first | (refine bodyPost_ret (results_none rfl _ _ _) rfl ?_) | go_end0
        exact ⟨rfl, ⟨_, by rw [hfin.out]; exact hS.out⟩, hB.out⟩
      | cons z r =>
        have hrH : Hid (t.row = z :: r) := hr
        have hE2 : Hid (StM.steps n s = StM.steps (m - 1) t.step1) := by show _ = _; rw [hE.out]; have := steps_succ hr (m - 1); rwa [show m - 1 + 1 = m by omega] at this
        have hZ := hI.out.pop hr
        have hI1 : Hid (InvM t.step1) := hI.out.step1
        have h61 : Hid (∀ o ∈ t.step1.obs, o.flds.length ≤ 6) := by have := steps_len6 1 h6t.out; rw [steps_succ hr 0] at this; exact this
        have hl1 : Hid (t.step1.obs.length = s.obs.length) := by have := (steps_frame 1 t).2.2.2; rw [steps_succ hr 0] at this; exact this.trans htlH.out
        have hst : Hid (t.step1 = { (({ t with row := r } : StM).shades (fldsM t.obs z)) with obs := setCol (({ t with row := r } : StM).shades (fldsM t.obs z)).obs z 3 }) := step1_cons hr
        have hQ : OutAt 0 wr (.slice qa t.row.length qc) (z :: r) := by have := hS.out.ro; rw [hr] at this ⊢; exact this
        rw [hr] at hQ hrow hrow' k4
        simp only [List.length_cons] at hQ hrow hrow' k4
        obtain ⟨q, qc', e⟩ := own_some hQ (by simp)
        injection e with e1 e2 e3
        subst e1
        have hcap : r.length + 1 ≤ qc := own_cap hQ
        have hcap' : (r.length : Int) + 1 ≤ qc := by omega
        have hcap1 : (1 : Int) ≤ qc := by omega
        have hr1 : (1 : Int) ≤ (r.length : Int) + 1 := by omega
        have kq : wr.cell? ⟨q, 0, none⟩ = some (.int .i64 z) := OutAt.cell hQ (j := 0) (by simp)
        obtain ⟨o, hg, hcol⟩ := (hI.out.gr z).1 (by rw [hr]; simp)
        have hgH : Hid (getM t.obs z = some o) := hg
        have ho6 : o.flds.length ≤ 6 := h6t.out o (getM_mem hg)
        have hfe : Hid (fldsM t.obs z = o.flds) := fldsM_some hg
        have hQH : Hid (OutAt 0 wr (.slice (some ⟨q, 0, none⟩) (r.length + 1) qc) (z :: r)) := hQ
        have hgc : Hid (Calls Try.prog 66 #[.pointer (some ⟨H, 0, none⟩), .int .i64 z] wr fun e w' => e = .returned (.tuple #[.pointer (some ⟨ps.getD (z.toNat - 1) 0, 0, none⟩), .bool true]) ∧ w' = wr) := (get_calls wr F H t ps fs ov R _ z hS.out (by have := htlH.out; omega)).mono fun e w' q => q.1 (by rw [hg]; simp)
        have hZH : Hid (InvZ { t with row := r } z) := hZ
        have hc3 : Hid (t.cyc = true) := hI.out.cyc (z := z) (by rw [hr]; simp)
        clear hr hZ hQ hg hcol hE
        obtain ⟨pp, hpp⟩ : ∃ pp, pp = ps.getD (z.toNat - 1) 0 := ⟨_, rfl⟩
        have hppH : Hid (pp = ps.getD (z.toNat - 1) 0) := hpp
        rw [← hpp] at hgc
        clear hpp
        clear e2 e3
        obtain ⟨off, hsrc⟩ : ∃ off, Hid (SrcAt (wr.alloc (.cells #[] 2)) 1 (.slice (if qc = 1 then some (⟨q, 0, none⟩ : Addr) else some ⟨q, 1, none⟩) r.length (qc - 1)) r.length (intsV r) ∧ off = 0) := by
          refine ⟨0, ?_, rfl⟩
          by_cases h1 : qc = 1
          · rw [if_pos h1]
            have hr0 : r = [] := List.eq_nil_of_length_eq_zero (by omega)
            exact src_tail hQH.out (below_1 _ _) 0 _ (fun q => absurd hr0 q)
          · rw [if_neg h1]
            exact src_tail hQH.out (below_1 _ _) 1 _ (fun _ => rfl)
        have hrl : r.length ≤ 1048576 := by omega
        have k4a : (wr.alloc (.cells #[] 2)).cell? ⟨H, 4, none⟩ = some (.slice (some ⟨q, 0, none⟩) (r.length + 1) qc) := (World.cell?_of_block (w := wr) (Below.heap_alloc _ _ _ (lt_of hS.out.blk))).trans k4
        go_wp2_with (first
          | (go_at_call 66; refine (show Calls _ _ _ _ _ from hgc.out).mono ?_; rintro e W ⟨rfl, hw⟩; subst hw)
          | (refine wpList_append_new rfl (.tmp 31) (.tmp 36) rfl rfl _ r rfl hsrc.out.1 hrl (fun qv' w2 hown2 hb2 => ?_); obtain ⟨pa, pb, pc, pd⟩ := hS.out.newRow hb2 hown2; have hpa : Hid _ := pa; have hpb : Hid _ := pb; obtain ⟨qa', qc'', rfl⟩ := own_slice hown2; clear pa pb hown2 hb2))
        all_goals
          have hT0 : Hid (SpW (w2.setCell ⟨H, 4, none⟩ (.slice qa' r.length qc'')) F H { t with row := r } ps fs ov R (.slice qa' r.length qc'')) := hpa
          have hB3 : Hid (Keep F w (w2.setCell ⟨H, 4, none⟩ (.slice qa' r.length qc''))) := hB.out.trans hpb.out
          clear hpa hpb pc pd k4a hsrc hQH hS k4 kq hgc hB hI hH
          generalize w2.setCell ⟨H, 4, none⟩ (.slice qa' r.length qc'') = W3 at hT0 hB3 ⊢
          generalize Value.slice qa' r.length qc'' = qv3 at hT0 ⊢
          go_loopw [6] (fun i wr => ∃ (j : Nat) (qv : Value), j ≤ o.flds.length ∧ i = .int .i64 j ∧ Hid (SpW wr F H (({ t with row := r } : StM).shades (o.flds.take j)) ps fs ov R qv) ∧ Hid (Keep F w wr)) (fun i _ => o.flds.length - (intOf i).toNat)
          case atStart => exact ⟨0, qv3, Nat.zero_le _, rfl, by simpa [shades_nil] using hT0, hB3⟩
          case round =>
            clear hT0 hB3
            obtain ⟨j, qv, hj, rfl, hS, hB⟩ := hrel
            have hj0 : (0 : Int) ≤ j := by omega
            have hfr := shades_frame ({ t with row := r } : StM) (o.flds.take j)
            have hZj : Hid (InvZ (({ t with row := r } : StM).shades (o.flds.take j)) z) := hZH.out.shades _
            obtain ⟨oj, hgj, hfj, _⟩ := (ShM.shades ({ t with row := r } : StM) (o.flds.take j)).to z o hgH.out
            have hob := hS.out.ob.get hgj
            rw [← hppH.out] at hob
            generalize fs.getD (z.toNat - 1) 0 = ff at hob
            have hbl := hob.blk
            have hrw := hob.row
            rw [hfj] at hbl hrw
            have k1 : wr.cell? ⟨pp, 1, none⟩ = some (.slice (some ⟨ff, 0, none⟩) o.flds.length o.flds.length) := cell_of hbl rfl
            have ho6' : (o.flds.length : Int) ≤ 6 := by omega
            by_cases hlt : j < o.flds.length
            · have hlt' : (j : Int) < (o.flds.length : Int) := by omega
              have kf : wr.cell? ⟨ff, j, none⟩ = some (.int .i64 o.flds[j]) := cell_of hrw (intsV_cell hlt)
              have hsh : Hid (Calls Try.prog 67 #[.pointer (some ⟨H, 0, none⟩), .int .i64 o.flds[j]] wr fun e w' => e = .returned (.tuple #[]) ∧ (∃ qv', SpW w' F H ((({ t with row := r } : StM).shades (o.flds.take j)).shade o.flds[j]) ps fs ov R qv') ∧ Keep F wr w') := shade_calls wr F H _ ps fs ov R qv _ hS.out (by rw [hfr.2.2.2]; have := htlH.out; show t.obs.length ≤ 400; omega) (by have := hZj.out.rowlen; rw [hfr.2.2.2] at this; have h2 := htlH.out; have h3 : ({ t with row := r } : StM).obs.length = t.obs.length := rfl; omega)
              have hEs : Hid ((({ t with row := r } : StM).shades (o.flds.take j)).shade o.flds[j] = ({ t with row := r } : StM).shades (o.flds.take (j + 1))) := by show _ = _; rw [take_snoc hlt, shades_snoc]
              rw [hEs.out] at hsh
              generalize o.flds[j] = y at *
              clear hS hZj hfr hob hbl hrw hgj hfj hEs
              go_wp2_with (go_at_call 67; refine (show Calls _ _ _ _ _ from hsh.out).mono ?_; rintro e w1 ⟨rfl, ⟨qv', hS1⟩, hB1⟩; have hS1H : Hid (SpW w1 F H (({ t with row := r } : StM).shades (o.flds.take (j + 1))) ps fs ov R qv') := hS1; have hB2 : Hid (Keep F w w1) := hB.out.trans hB1; clear hS1 hB1)
              go_roundw
              case rel => exact ⟨j + 1, qv', by omega, by go_num, hS1H, hB2⟩
              case measure => simp [intOf]; omega
            · have hge : ¬ ((j : Int) < (o.flds.length : Int)) := by omega
              have hjE : j = o.flds.length := by omega
              have kc : wr.cell? ⟨pp, 2, none⟩ = some (.int .i64 oj.col) := cell_of hbl rfl
              have kz : wr.frozen? ⟨pp, 2, none⟩ = false := free_of hbl
              have hend : Hid (SpW (wr.setCell ⟨pp, 2, none⟩ (.int .i64 3)) F H t.step1 ps fs ov R qv) := by
                have h1 := hS.out.colour hgj 3
                rw [← hppH.out, hjE, List.take_length] at h1
                rw [hst.out, hfe.out]
                exact h1
              have hBe : Hid (Keep F w (wr.setCell ⟨pp, 2, none⟩ (.int .i64 3))) := by
                refine hB.out.setCell (p := ⟨pp, 2, none⟩) ?_ _
                rw [hppH.out]
                obtain ⟨a1, a2, _⟩ := getM_some.1 hgj
                have hi := (List.getElem?_eq_some_iff.1 a2).1
                refine hS.out.ob.lo.1 _ ?_
                rw [List.getD_eq_getElem?_getD, List.getElem?_eq_getElem (by rw [hS.out.ob.lp]; exact hi)]
                exact List.getElem_mem _
              clear hS hZj hfr hob hbl hrw hgj hfj hjE
              go_wp2
              go_roundw
              case rel => exact ⟨m - 1, t.step1, qv, by omega, by first | go_num | (simp; omega), hend, hI1, hE2, hl1.out, h61, hBe⟩
              case measure => simp [intOf]; omega
end Go.Proofs.Ytchcdlelaklnnaa
