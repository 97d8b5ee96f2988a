/- The specification's heap: a field is read, a field is written. -/
import Derived.Test.YtchcdlelaklnnaaKsJ
import Derived.BigQuiet
namespace Go.Proofs.Ytchcdlelaklnnaa
set_option linter.unusedVariables false
open Go.ChangeShapes Go.WideShapes Go.ChangeAt Go.RowKit

theorem drewN_lt (W : World) (n : Nat) : Below W.heap.size W (W.drewN n) := below_drewN (Below.refl _ _) n
theorem SpW.setRoot {w : World} {F : Nat → Prop} {H R : Nat} {s : StM} {ps fs : List Nat} {ov qv : Value} (h : SpW w F H s ps fs ov R qv) (a : Nat) (z : Int) : SpW (w.setCell ⟨R, a, none⟩ (.int .i64 z)) F H (setR s a z) ps fs ov R qv ∧ Keep F w (w.setCell ⟨R, a, none⟩ (.int .i64 z)) := by
  refine ⟨⟨h.ob.kept fun k cs t b c => set_other _ (fun e => ?_), ?_, own_kept h.ow fun k q => ?_, ?_, own_kept h.ro fun k q => set_other _ (fun e => h.n2 (e ▸ q)), h.n1, h.n2, h.n3, ⟨h.lo.1, h.lo.2.1, by have := h.lo.2.2; simpa [World.setCell] using this⟩, h.fo⟩, (Keep.refl _ _).setCell (p := ⟨R, a, none⟩) h.lo.2.1 _⟩
  · rcases c with c | c
    · exact tag_ne b h.rt (by rw [c]; decide) e
    · exact h.n1 (e ▸ c.2)
  · rw [set_other _ (tag_ne h.blk h.rt (by decide))]
    exact h.blk
  · obtain ⟨cur, b⟩ := own_tag h.ow q
    exact set_other _ (tag_ne b h.rt (by decide))
  · rw [set_same _ h.rt]
    congr 2
    simp [intsV, setR, List.map_set]
theorem therL_setF (obs : List ObM) (z c v : Int) : therL (setF obs z c v) = therL obs := by
  unfold therL
  rw [setF_length]
  refine List.filter_congr fun i _ => ?_
  unfold setF
  rw [List.getElem?_modify]
  cases obs[i]? with
  | none => rfl
  | some o => by_cases e : z.toNat - 1 = i <;> simp [e]
theorem fs_ne {w : World} {F : Nat → Prop} {ps fs : List Nat} {obs : List ObM} (h : ObsAt w F ps fs obs) {i j : Nat} (hi : i < obs.length) (hj : j < obs.length) (hne : i ≠ j) : fs.getD i 0 ≠ fs.getD j 0 := by
  rw [List.getD_eq_getElem?_getD, List.getD_eq_getElem?_getD, List.getElem?_eq_getElem (by rw [h.lf]; exact hi), List.getElem?_eq_getElem (by rw [h.lf]; exact hj)]
  simp only [Option.getD_some]
  intro e
  rcases Nat.lt_or_gt_of_ne hne with q | q
  · exact (List.pairwise_iff_getElem.1 h.nd) i j (by rw [h.lf]; exact hi) (by rw [h.lf]; exact hj) q e
  · exact (List.pairwise_iff_getElem.1 h.nd) j i (by rw [h.lf]; exact hj) (by rw [h.lf]; exact hi) q e.symm
theorem ObsAt.field {w : World} {F : Nat → Prop} {ps fs : List Nat} {obs : List ObM} (h : ObsAt w F ps fs obs) {z : Int} {o : ObM} (hg : getM obs z = some o) (c : Nat) (v : Int) : ObsAt (w.setCell ⟨fs.getD (z.toNat - 1) 0, c, none⟩ (.int .i64 v)) F ps fs (setF obs z c v) := by
  have a := h.get hg
  obtain ⟨h1, h2, _⟩ := getM_some.1 hg
  have hzl := (List.getElem?_eq_some_iff.1 h2).1
  refine ⟨by rw [setF_length]; exact h.lp, by rw [setF_length]; exact h.lf, fun i x hx => ?_, h.nd, h.lo⟩
  unfold setF at hx
  rw [List.getElem?_modify] at hx
  by_cases e : z.toNat - 1 = i
  · subst e
    rw [h2] at hx
    simp at hx
    subst hx
    have ei : ((z.toNat - 1 : Nat) : Int) + 1 = z := by omega
    rw [ei]
    refine ⟨?_, ?_⟩
    · rw [set_other _ (tag_ne a.blk a.row (by decide))]
      have := a.blk
      simpa using this
    · rw [set_same _ a.row]
      congr 2
      simp [intsV, List.map_set]
  · cases hxi : obs[i]? with
    | none => rw [hxi] at hx; simp at hx
    | some y =>
      rw [hxi] at hx
      simp [e] at hx
      subst hx
      have b := h.at_ i y hxi
      have hil := (List.getElem?_eq_some_iff.1 hxi).1
      refine ⟨?_, ?_⟩
      · rw [set_other _ (tag_ne b.blk a.row (by decide))]
        exact b.blk
      · rw [set_other _ (fs_ne h hil hzl (fun q => e q.symm))]
        exact b.row
theorem SpW.setFld {w : World} {F : Nat → Prop} {H R : Nat} {s : StM} {ps fs : List Nat} {ov qv : Value} (h : SpW w F H s ps fs ov R qv) {z : Int} {o : ObM} (hg : getM s.obs z = some o) (c : Nat) (v : Int) : SpW (w.setCell ⟨fs.getD (z.toNat - 1) 0, c, none⟩ (.int .i64 v)) F H { s with obs := setF s.obs z c v } ps fs ov R qv ∧ Keep F w (w.setCell ⟨fs.getD (z.toNat - 1) 0, c, none⟩ (.int .i64 v)) := by
  have a := (h.ob.get hg).row
  obtain ⟨_, h2, _⟩ := getM_some.1 hg
  have hzl := (List.getElem?_eq_some_iff.1 h2).1
  have hmem : fs.getD (z.toNat - 1) 0 ∈ fs := by rw [List.getD_eq_getElem?_getD, List.getElem?_eq_getElem (by rw [h.ob.lf]; exact hzl)]; exact List.getElem_mem _
  refine ⟨⟨h.ob.field hg c v, ?_, ?_, ?_, own_kept h.ro fun k q => set_other _ (fun e => h.n3 _ hmem (e ▸ q)), h.n1, h.n2, h.n3, ⟨h.lo.1, h.lo.2.1, by have := h.lo.2.2; simpa [World.setCell] using this⟩, h.fo⟩, (Keep.refl _ _).setCell (p := ⟨_, c, none⟩) (h.ob.lo.2 _ hmem) _⟩
  · rw [set_other _ (tag_ne h.blk a (by decide))]
    show _ = some (Obj.cells #[_, _, _, _, _, .int .i64 ((setF s.obs z c v).length : Nat)] 61 (0, 0))
    rw [setF_length]
    exact h.blk
  · show World.ownsRow _ _ _ _ _ (therL (setF s.obs z c v)).length (ptrsP ps (therL (setF s.obs z c v)))
    rw [therL_setF]
    exact own_kept h.ow fun k q => by
      obtain ⟨cur, b⟩ := own_tag h.ow q
      exact set_other _ (tag_ne b a (by decide))
  · rw [set_other _ (fun e => h.n1 (by rw [e]; exact hmem))]
    exact h.rt
theorem rootM_nat {s : StM} (h : s.roots.length = 8) {b : Nat} (hb : b < 8) : rootM s b = s.roots[b]'(by omega) := by
  unfold rootM
  rw [Int.toNat_natCast, List.getD_eq_getElem?_getD, List.getElem?_eq_getElem (by omega)]
  rfl
theorem fcodeM_none {s : StM} {z c : Int} (h : getM s.obs z = none) : fcodeM s z c = 2 := by simp [fcodeM, h]
theorem fcodeM_some {s : StM} {z c : Int} {o : ObM} (h : getM s.obs z = some o) : fcodeM s z c = if 0 ≤ c ∧ c < (o.flds.length : Int) then 0 else 3 := by simp [fcodeM, h]
theorem fieldM_nat {s : StM} {z : Int} {o : ObM} {c : Nat} (h : getM s.obs z = some o) (hc : c < o.flds.length) : fieldM s z c = o.flds[c] := by
  unfold fieldM
  rw [fldsM_some h, Int.toNat_natCast, List.getD_eq_getElem?_getD, List.getElem?_eq_getElem hc]
  rfl
set_option maxRecDepth 100000 in
set_option maxHeartbeats 2000000 in
theorem fget_calls (w : World) (F : Nat → Prop) (H : Nat) (s : StM) (ps fs : List Nat) (ov : Value) (R : Nat) (qv : Value) (c : Int) (a b : Nat) (h : SpW w F H s ps fs ov R qv) (hi : InvM s) (hl : s.obs.length ≤ 400) (ha : a < 8) (hb : b < 8) (h6 : ∀ o ∈ s.obs, o.flds.length ≤ 6) :
    Calls Try.prog 44 #[.pointer (some ⟨H, 0, none⟩), .agg #[.int .i64 2, .int .i64 a, .int .i64 b, .int .i64 c]] w fun e w' => e = .returned (.int .i64 (fcodeM s (rootM s b) c)) ∧ SpW w' F H (if fcodeM s (rootM s b) c = 0 then setR s a (fieldM s (rootM s b) c) else s) ps fs ov R qv ∧ Keep F w w' := by
  have hr8 := hi.rl
  have hbl : b < s.roots.length := by omega
  have hz : rootM s b = s.roots[b] := rootM_nat hr8 hb
  generalize hzd : s.roots[b] = z at hz
  rw [hz]
  obtain ⟨cd, hcd⟩ : ∃ cd, cd = fcodeM s z c := ⟨_, rfl⟩
  obtain ⟨T, hT⟩ : ∃ T, T = (if fcodeM s z c = 0 then setR s a (fieldM s z c) else s) := ⟨_, rfl⟩
  rw [← hT, ← hcd]
  have hcdH : Hid (cd = fcodeM s z c) := hcd
  have hTH : Hid (T = (if fcodeM s z c = 0 then setR s a (fieldM s z c) else s)) := hT
  clear hcd hT
  have hS0 : Hid (SpW (w.alloc (.cells #[.int .i64 2, .int .i64 a, .int .i64 b, .int .i64 c] 27)) F H s ps fs ov R qv) := h.below (below_1 _ _)
  have hK0 : Hid (Keep F w (w.alloc (.cells #[.int .i64 2, .int .i64 a, .int .i64 b, .int .i64 c] 27))) := Keep.of (below_1 _ _) h.lo.2.2
  have hbx0 : Hid ((w.alloc (.cells #[.int .i64 2, .int .i64 a, .int .i64 b, .int .i64 c] 27)).heap[w.heap.size]? = some (.cells #[.int .i64 2, .int .i64 a, .int .i64 b, .int .i64 c] 27 (0, 0))) := heap_alloc_new _ _
  clear hz h hi
  go_enter Try.func44, Try.ntmps44
  go_upto_region 1 with fail
  generalize w.heap.size = bx at hbx0 ⊢
  generalize w.alloc (.cells #[.int .i64 2, .int .i64 a, .int .i64 b, .int .i64 c] 27) = W0 at hS0 hK0 hbx0 ⊢
  have c0 : W0.cell? ⟨bx, 0, none⟩ = some (.int .i64 2) := cell_of hbx0.out rfl
  have c1 : W0.cell? ⟨bx, 1, none⟩ = some (.int .i64 a) := cell_of hbx0.out rfl
  have c2 : W0.cell? ⟨bx, 2, none⟩ = some (.int .i64 b) := cell_of hbx0.out rfl
  have c3 : W0.cell? ⟨bx, 3, none⟩ = some (.int .i64 c) := cell_of hbx0.out rfl
  have k2 : W0.cell? ⟨H, 2, none⟩ = some (.slice (some ⟨R, 0, none⟩) 8 8) := cell_of hS0.out.blk rfl
  have kb : W0.cell? ⟨R, b, none⟩ = some (.int .i64 z) := by rw [← hzd]; exact cell_of hS0.out.rt (intsV_cell hbl)
  have hb8 : (b : Int) < 8 := by omega
  have ha8 : (a : Int) < 8 := by omega
  have hget : Hid (Calls Try.prog 66 #[.pointer (some ⟨H, 0, none⟩), .int .i64 z] W0 fun e w' => (getM s.obs z ≠ none → e = .returned (.tuple #[.pointer (some ⟨ps.getD (z.toNat - 1) 0, 0, none⟩), .bool true]) ∧ w' = W0) ∧ (getM s.obs z = none → (∃ g, e = .returned (.tuple #[.pointer (some ⟨g, 0, none⟩), .bool false])) ∧ Below W0.heap.size W0 w')) := get_calls W0 F H s ps fs ov R qv z hS0.out hl
  clear hzd hbx0
  cases hg : getM s.obs z with
  | none =>
    have hgc : Hid (Calls Try.prog 66 #[.pointer (some ⟨H, 0, none⟩), .int .i64 z] W0 fun e w' => (∃ g, e = .returned (.tuple #[.pointer (some ⟨g, 0, none⟩), .bool false])) ∧ Below W0.heap.size W0 w') := hget.out.mono fun e w' q => q.2 hg
    have hcN : Hid (cd = 2 ∧ T = s) := by
      have h1 := hcdH.out
      have h2 := hTH.out
      rw [fcodeM_none hg] at h1 h2
      exact ⟨h1, by rw [h2, if_neg (by omega)]⟩
    clear hget hg
    go_wp2_with (go_at_call 66; refine (show Calls _ _ _ _ _ from hgc.out).mono ?_; rintro e w' ⟨⟨g, rfl⟩, hB⟩)
    go_ret
    exact ⟨by rw [hcN.out.1]; rfl, by rw [hcN.out.2]; exact hS0.out.below hB, hK0.out.trans (Keep.of hB hS0.out.lo.2.2)⟩
  | some o =>
    have hgc : Hid (Calls Try.prog 66 #[.pointer (some ⟨H, 0, none⟩), .int .i64 z] W0 fun e w' => e = .returned (.tuple #[.pointer (some ⟨ps.getD (z.toNat - 1) 0, 0, none⟩), .bool true]) ∧ w' = W0) := hget.out.mono fun e w' q => q.1 (by rw [hg]; simp)
    have hcS : Hid (cd = (if 0 ≤ c ∧ c < (o.flds.length : Int) then 0 else 3) ∧ T = (if (if 0 ≤ c ∧ c < (o.flds.length : Int) then 0 else 3) = (0 : Int) then setR s a (fieldM s z c) else s)) := by
      have h1 := hcdH.out
      have h2 := hTH.out
      rw [fcodeM_some hg] at h1 h2
      exact ⟨h1, h2⟩
    have hgH : Hid (getM s.obs z = some o) := hg
    have hob := hS0.out.ob.get hg
    have ho6 : (o.flds.length : Int) ≤ 6 := by have := h6 o (getM_mem hg); omega
    clear hget hg h6
    generalize ps.getD (z.toNat - 1) 0 = pp at hgc hob
    have hffd : ∃ ff, ff = fs.getD (z.toNat - 1) 0 := ⟨_, rfl⟩
    obtain ⟨ff, hff⟩ := hffd
    rw [← hff] at hob
    have hffH : Hid (ff = fs.getD (z.toNat - 1) 0) := hff
    clear hff
    have k1 : W0.cell? ⟨pp, 1, none⟩ = some (.slice (some ⟨ff, 0, none⟩) o.flds.length o.flds.length) := cell_of hob.blk rfl
    have hrow : Hid (W0.heap[ff]? = some (.cells (intsV o.flds).toArray 2 (0, 0))) := hob.row
    clear hob
    go_wp2_with (go_at_call 66; refine (show Calls _ _ _ _ _ from hgc.out).mono ?_; rintro e w' ⟨rfl, hw⟩; subst hw)
    by_cases hc0 : c < 0
    · have hc3 : Hid (cd = 3 ∧ T = s) := by
        have h1 := hcS.out
        rw [if_neg (by omega), if_neg (by omega)] at h1
        exact h1
      have hd : decide (c < 0) = true := by simp [hc0]
      go_quiet (fail)
      go_wp2
      go_ret
      exact ⟨by rw [hc3.out.1]; rfl, by rw [hc3.out.2]; exact hS0.out.below (drewN_lt _ _), hK0.out.trans (Keep.of (drewN_lt _ _) hS0.out.lo.2.2)⟩
    · have hd : decide (c < 0) = false := by simp [hc0]
      by_cases hcl : c < (o.flds.length : Int)
      · obtain ⟨ci, rfl⟩ : ∃ ci : Nat, c = ci := ⟨c.toNat, by omega⟩
        have hc00 : cd = 0 ∧ T = setR s a (o.flds[ci]'(by omega)) := by
          have h1 := hcS.out
          rw [if_pos ⟨by omega, hcl⟩, if_pos rfl, fieldM_nat hgH.out (by omega)] at h1
          exact h1
        have hcl2 : ¬ ((ci : Int) ≥ (o.flds.length : Int)) := by omega
        have kf : w'.cell? ⟨ff, ci, none⟩ = some (.int .i64 (o.flds[ci]'(by omega))) := cell_of hrow.out (intsV_cell (by omega))
        generalize o.flds[ci]'(by omega) = y at kf hc00
        have hc0H : Hid _ := hc00
        have hfin : Hid (∀ W : World, Below w'.heap.size w' W → SpW (W.setCell ⟨R, a, none⟩ (.int .i64 y)) F H (setR s a y) ps fs ov R qv ∧ Keep F W (W.setCell ⟨R, a, none⟩ (.int .i64 y))) := fun W hB => (hS0.out.below hB).setRoot a y
        have kz : ∃ u, w'.cell? ⟨R, a, none⟩ = some u := ⟨_, cell_of hS0.out.rt (intsV_cell (zs := s.roots) (j := a) (by omega))⟩
        obtain ⟨u, kz⟩ := kz
        have kfz : w'.frozen? ⟨R, a, none⟩ = false := free_of hS0.out.rt
        have hlo : Hid (∀ k, F k → k < w'.heap.size) := hS0.out.lo.2.2
        clear hS0 hgH hrow hffH hgc hc0 hc00 hcS hcdH hTH
        go_quiet (fail)
        go_wp2_with fail
        have c1' : (w'.drewN nq).cell? ⟨bx, 1, none⟩ = some (.int .i64 a) := c1
        have c3' : (w'.drewN nq).cell? ⟨bx, 3, none⟩ = some (.int .i64 ci) := c3
        have k1' : (w'.drewN nq).cell? ⟨pp, 1, none⟩ = some (.slice (some ⟨ff, 0, none⟩) o.flds.length o.flds.length) := k1
        have k2' : (w'.drewN nq).cell? ⟨H, 2, none⟩ = some (.slice (some ⟨R, 0, none⟩) 8 8) := k2
        have kf' : (w'.drewN nq).cell? ⟨ff, ci, none⟩ = some (.int .i64 y) := kf
        have kz' : (w'.drewN nq).cell? ⟨R, a, none⟩ = some u := kz
        have kfz' : (w'.drewN nq).frozen? ⟨R, a, none⟩ = false := kfz
        have hfin' : Hid _ := hfin.out (w'.drewN nq) (drewN_lt _ _)
        have hK' : Hid _ := hK0.out.trans (Keep.of (drewN_lt w' nq) hlo.out)
        have hlo' : Hid (∀ k, F k → k < (w'.drewN nq).heap.size) := hlo.out
        clear c0 c1 c2 c3 k1 k2 kf kz kfz hfin hK0 hlo kb
        generalize w'.drewN nq = W4 at *
        go_still_tail 15, (by kernel_rfl)
        go_wp2
        go_ret
        exact ⟨by rw [hc0H.out.1]; rfl, by rw [hc0H.out.2]; exact hfin'.out.1.below (Below.drew (Below.refl _ _)), (hK'.out.trans hfin'.out.2).trans (Keep.of (Below.drew (Below.refl _ _)) hfin'.out.1.lo.2.2)⟩
      · have hc3 : Hid (cd = 3 ∧ T = s) := by
          have h1 := hcS.out
          rw [if_neg (by omega), if_neg (by omega)] at h1
          exact h1
        have hcl2 : (c ≥ (o.flds.length : Int)) := by omega
        go_quiet (fail)
        go_wp2
        go_ret
        exact ⟨by rw [hc3.out.1]; rfl, by rw [hc3.out.2]; exact hS0.out.below (drewN_lt _ _), hK0.out.trans (Keep.of (drewN_lt _ _) hS0.out.lo.2.2)⟩
end Go.Proofs.Ytchcdlelaklnnaa
