/- The specification's heap: a field is written. -/
import Derived.Test.YtchcdlelaklnnaaKsK
namespace Go.Proofs.Ytchcdlelaklnnaa
set_option linter.unusedVariables false
open Go.ChangeShapes Go.WideShapes Go.ChangeAt Go.RowKit

theorem SpW.boxed {w : World} {F : Nat → Prop} {H R : Nat} {s : StM} {ps fs : List Nat} {ov qv : Value} (h : SpW w F H s ps fs ov R qv) (ob : Obj) : SpW (w.alloc ob) (fun k => F k ∨ k = w.heap.size) H s ps fs ov R qv := h.mv (fun k hk hn => ⟨Below.heap_alloc _ _ _ hk, fun q => by
  rcases q with q | q
  · exact hn q
  · omega⟩) fun k q => by
  rw [World.size_alloc]
  rcases q with q | q
  · have := h.lo.2.2 k q; omega
  · omega
theorem SpW.unbox {w : World} {F G : Nat → Prop} {H R : Nat} {s : StM} {ps fs : List Nat} {ov qv : Value} (h : SpW w G H s ps fs ov R qv) (hG : ∀ k, F k → G k) : SpW w F H s ps fs ov R qv := h.mv (fun k _ hn => ⟨rfl, fun q => hn (hG k q)⟩) fun k q => h.lo.2.2 k (hG k q)
theorem barM_out {s : StM} (hi : InvM s) (hc : s.cyc = false) (hm : s.mode = 1 ∨ s.mode = 2) (z c v : Int) : barM s z c v = s := by
  have hno : ∀ y, s.shade y = s := fun y => shade_none fun o ho => by have := hi.out hc y o ho; omega
  unfold barM
  split
  · exact hno _
  · split
    · exact hno _
    · rfl
theorem barM_1 {s : StM} (hm : s.mode = 1) (z c v : Int) : barM s z c v = s.shade (fieldM s z c) := by unfold barM; rw [if_pos hm]
theorem barM_2 {s : StM} (hm : s.mode = 2) {z : Int} {o : ObM} (hg : getM s.obs z = some o) (c v : Int) : barM s z c v = if o.col = 3 then s.shade v else s := by
  unfold barM
  rw [if_neg (by omega)]
  simp [colM, hg]
/-- What the last store of a write meets, and what is behind it. -/
theorem SpW.put {W : World} {G : Nat → Prop} {H R : Nat} {s t : StM} {ps fs : List Nat} {ov qv : Value} (h : SpW W G H t ps fs ov R qv) {z : Int} {o : ObM} (hg : getM s.obs z = some o) {c b : Nat} {v : Int} (ht : t = barM s z c v) (hc : c < o.flds.length) (hr8 : s.roots.length = 8) (hb : b < 8) (hv : s.roots[b]'(by omega) = v) :
    SpW (W.setCell ⟨fs.getD (z.toNat - 1) 0, c, none⟩ (.int .i64 v)) G H (putM s z c v) ps fs ov R qv ∧ Keep G W (W.setCell ⟨fs.getD (z.toNat - 1) 0, c, none⟩ (.int .i64 v)) ∧ W.cell? ⟨H, 2, none⟩ = some (.slice (some ⟨R, 0, none⟩) 8 8) ∧ W.cell? ⟨R, b, none⟩ = some (.int .i64 v) ∧ W.cell? ⟨ps.getD (z.toNat - 1) 0, 1, none⟩ = some (.slice (some ⟨fs.getD (z.toNat - 1) 0, 0, none⟩) o.flds.length o.flds.length) ∧ (∃ u, W.cell? ⟨fs.getD (z.toNat - 1) 0, c, none⟩ = some u) ∧ W.frozen? ⟨fs.getD (z.toNat - 1) 0, c, none⟩ = false := by
  subst ht
  obtain ⟨o', hg', hf', _⟩ := (bar_sh s z c v).to z o hg
  have a := h.ob.get hg'
  have hrt := h.rt
  rw [(bar_frame s z c v).2.1] at hrt
  obtain ⟨h1, h2⟩ := h.setFld hg' c v
  refine ⟨h1, h2, cell_of h.blk rfl, ?_, ?_, ⟨_, cell_of a.row (intsV_cell (zs := o'.flds) (j := c) (by rw [hf']; exact hc))⟩, free_of a.row⟩
  · have := cell_of hrt (intsV_cell (zs := s.roots) (j := b) (by omega))
    rw [hv] at this
    exact this
  · have := cell_of a.blk (j := 1) rfl
    rw [hf'] at this
    exact this
set_option maxRecDepth 100000 in
set_option maxHeartbeats 2000000 in
theorem fset_calls (w : World) (F : Nat → Prop) (H : Nat) (s : StM) (ps fs : List Nat) (ov : Value) (R : Nat) (qv : Value) (c : Int) (a b : Nat) (h : SpW w F H s ps fs ov R qv) (hi : InvM s) (hl : s.obs.length ≤ 400) (ha : a < 8) (hb : b < 8) (h6 : ∀ o ∈ s.obs, o.flds.length ≤ 6) (hmd : s.mode = 1 ∨ s.mode = 2) :
    Calls Try.prog 44 #[.pointer (some ⟨H, 0, none⟩), .agg #[.int .i64 3, .int .i64 a, .int .i64 b, .int .i64 c]] w fun e w' => e = .returned (.int .i64 (fcodeM s (rootM s a) c)) ∧ (∃ qv', SpW w' F H (if fcodeM s (rootM s a) c = 0 then putM s (rootM s a) c (rootM s b) else s) ps fs ov R qv') ∧ Keep F w w' := by
  have hr8 := hi.rl
  have hbl : b < s.roots.length := by omega
  have hal : a < s.roots.length := by omega
  have hz : rootM s a = s.roots[a] := rootM_nat hr8 ha
  have hv : rootM s b = s.roots[b] := rootM_nat hr8 hb
  generalize hzd : s.roots[a] = z at hz
  generalize hvd : s.roots[b] = v at hv
  rw [hz, hv]
  have hvH : Hid (s.roots[b] = v) := hvd
  have hiH : Hid (InvM s) := hi
  have hFl : Hid (∀ k, F k → k < w.heap.size) := h.lo.2.2
  obtain ⟨cd, hcd⟩ : ∃ cd, cd = fcodeM s z c := ⟨_, rfl⟩
  obtain ⟨T, hT⟩ : ∃ T, T = (if fcodeM s z c = 0 then putM s z c v else s) := ⟨_, rfl⟩
  rw [← hT, ← hcd]
  have hcdH : Hid (cd = fcodeM s z c) := hcd
  have hTH : Hid (T = (if fcodeM s z c = 0 then putM s z c v else s)) := hT
  clear hcd hT
  have hS0 : Hid (SpW (w.alloc (.cells #[.int .i64 3, .int .i64 a, .int .i64 b, .int .i64 c] 27)) (fun k => F k ∨ k = w.heap.size) H s ps fs ov R qv) := h.boxed _
  have hK0 : Hid (Keep F w (w.alloc (.cells #[.int .i64 3, .int .i64 a, .int .i64 b, .int .i64 c] 27))) := Keep.of (below_1 _ _) h.lo.2.2
  have hbx0 : Hid ((w.alloc (.cells #[.int .i64 3, .int .i64 a, .int .i64 b, .int .i64 c] 27)).heap[w.heap.size]? = some (.cells #[.int .i64 3, .int .i64 a, .int .i64 b, .int .i64 c] 27 (0, 0))) := heap_alloc_new _ _
  clear hz hv h hi
  go_enter Try.func44, Try.ntmps44
  go_upto_region 1 with fail
  obtain ⟨bx, hbx⟩ : ∃ bx, bx = w.heap.size := ⟨_, rfl⟩
  rw [← hbx] at hS0 hbx0 ⊢
  clear hbx
  generalize w.alloc (.cells #[.int .i64 3, .int .i64 a, .int .i64 b, .int .i64 c] 27) = W0 at hS0 hK0 hbx0 ⊢
  obtain ⟨G, hG⟩ : ∃ G : Nat → Prop, G = fun k => F k ∨ k = bx := ⟨_, rfl⟩
  have hGH : Hid ((∀ k, F k → G k) ∧ G bx) := by rw [hG]; exact ⟨fun k q => .inl q, .inr rfl⟩
  rw [← hG] at hS0
  clear hG
  have c0 : W0.cell? ⟨bx, 0, none⟩ = some (.int .i64 3) := cell_of hbx0.out rfl
  have c1 : W0.cell? ⟨bx, 1, none⟩ = some (.int .i64 a) := cell_of hbx0.out rfl
  have c2 : W0.cell? ⟨bx, 2, none⟩ = some (.int .i64 b) := cell_of hbx0.out rfl
  have c3 : W0.cell? ⟨bx, 3, none⟩ = some (.int .i64 c) := cell_of hbx0.out rfl
  have k2 : W0.cell? ⟨H, 2, none⟩ = some (.slice (some ⟨R, 0, none⟩) 8 8) := cell_of hS0.out.blk rfl
  have ka : W0.cell? ⟨R, a, none⟩ = some (.int .i64 z) := by rw [← hzd]; exact cell_of hS0.out.rt (intsV_cell hal)
  have hb8 : (b : Int) < 8 := by omega
  have ha8 : (a : Int) < 8 := by omega
  have hget : Hid (Calls Try.prog 66 #[.pointer (some ⟨H, 0, none⟩), .int .i64 z] W0 fun e w' => (getM s.obs z ≠ none → e = .returned (.tuple #[.pointer (some ⟨ps.getD (z.toNat - 1) 0, 0, none⟩), .bool true]) ∧ w' = W0) ∧ (getM s.obs z = none → (∃ g, e = .returned (.tuple #[.pointer (some ⟨g, 0, none⟩), .bool false])) ∧ Below W0.heap.size W0 w')) := get_calls W0 G H s ps fs ov R qv z hS0.out hl
  clear hzd hvd
  cases hg : getM s.obs z with
  | none =>
    have hgc : Hid (Calls Try.prog 66 #[.pointer (some ⟨H, 0, none⟩), .int .i64 z] W0 fun e w' => (∃ g, e = .returned (.tuple #[.pointer (some ⟨g, 0, none⟩), .bool false])) ∧ Below W0.heap.size W0 w') := hget.out.mono fun e w' q => q.2 hg
    have hcN : Hid (cd = 2 ∧ T = s) := by
      have h1 := hcdH.out
      have h2 := hTH.out
      rw [fcodeM_none hg] at h1 h2
      exact ⟨h1, by rw [h2, if_neg (by omega)]⟩
    clear hget hg
    go_wp2_with (go_at_call 66; refine (show Calls _ _ _ _ _ from hgc.out).mono ?_; rintro e w' ⟨⟨g, rfl⟩, hB⟩)
    go_ret
    exact ⟨by rw [hcN.out.1]; rfl, by rw [hcN.out.2]; exact ⟨qv, (hS0.out.below hB).unbox hGH.out.1⟩, hK0.out.trans ((Keep.of hB hS0.out.lo.2.2).mono hGH.out.1)⟩
  | some o =>
    have hgc : Hid (Calls Try.prog 66 #[.pointer (some ⟨H, 0, none⟩), .int .i64 z] W0 fun e w' => e = .returned (.tuple #[.pointer (some ⟨ps.getD (z.toNat - 1) 0, 0, none⟩), .bool true]) ∧ w' = W0) := hget.out.mono fun e w' q => q.1 (by rw [hg]; simp)
    have hcS : Hid (cd = (if 0 ≤ c ∧ c < (o.flds.length : Int) then 0 else 3) ∧ T = (if (if 0 ≤ c ∧ c < (o.flds.length : Int) then 0 else 3) = (0 : Int) then putM s z c v else s)) := by
      have h1 := hcdH.out
      have h2 := hTH.out
      rw [fcodeM_some hg] at h1 h2
      exact ⟨h1, h2⟩
    have hgH : Hid (getM s.obs z = some o) := hg
    have hob := hS0.out.ob.get hg
    have ho6 : (o.flds.length : Int) ≤ 6 := by have := h6 o (getM_mem hg); omega
    clear hget hg h6
    obtain ⟨pp, hpp⟩ : ∃ pp, pp = ps.getD (z.toNat - 1) 0 := ⟨_, rfl⟩
    rw [← hpp] at hgc hob
    have hppH : Hid (pp = ps.getD (z.toNat - 1) 0) := hpp
    clear hpp
    have hcolH : Hid (W0.cell? ⟨pp, 2, none⟩ = some (.int .i64 o.col)) := cell_of hob.blk rfl
    have hffd : ∃ ff, ff = fs.getD (z.toNat - 1) 0 := ⟨_, rfl⟩
    obtain ⟨ff, hff⟩ := hffd
    rw [← hff] at hob
    have hffH : Hid (ff = fs.getD (z.toNat - 1) 0) := hff
    clear hff
    have k1 : W0.cell? ⟨pp, 1, none⟩ = some (.slice (some ⟨ff, 0, none⟩) o.flds.length o.flds.length) := cell_of hob.blk rfl
    have hrow : Hid (W0.heap[ff]? = some (.cells (intsV o.flds).toArray 2 (0, 0))) := hob.row
    clear hob
    go_wp2_with (go_at_call 66; refine (show Calls _ _ _ _ _ from hgc.out).mono ?_; rintro e w' ⟨rfl, hw⟩; subst hw)
    by_cases hc0 : c < 0
    · have hc3 : Hid (cd = 3 ∧ T = s) := by
        have h1 := hcS.out
        rw [if_neg (by omega), if_neg (by omega)] at h1
        exact h1
      have hd : decide (c < 0) = true := by simp [hc0]
      go_quiet (fail)
      go_wp2
      go_ret
      exact ⟨by rw [hc3.out.1]; rfl, by rw [hc3.out.2]; exact ⟨qv, (hS0.out.below (drewN_lt _ _)).unbox hGH.out.1⟩, hK0.out.trans ((Keep.of (drewN_lt _ _) hS0.out.lo.2.2).mono hGH.out.1)⟩
    · have hd : decide (c < 0) = false := by simp [hc0]
      by_cases hcl : c < (o.flds.length : Int)
      · obtain ⟨ci, rfl⟩ : ∃ ci : Nat, c = ci := ⟨c.toNat, by omega⟩
        have hc00 : cd = 0 ∧ T = putM s z ci v := by
          have h1 := hcS.out
          rw [if_pos ⟨by omega, hcl⟩, if_pos rfl] at h1
          exact h1
        have hc0H : Hid _ := hc00
        have hcl2 : ¬ ((ci : Int) ≥ (o.flds.length : Int)) := by omega
        have hy : Hid (fieldM s z ci = o.flds[ci]'(by omega)) := fieldM_nat hgH.out (by omega)
        have kf : w'.cell? ⟨ff, ci, none⟩ = some (.int .i64 (o.flds[ci]'(by omega))) := cell_of hrow.out (intsV_cell (by omega))
        generalize o.flds[ci]'(by omega) = y at kf hy
        have hcol : Hid (w'.cell? ⟨pp, 2, none⟩ = some (.int .i64 o.col)) := hcolH.out
        clear hgc hc0 hc00 hcS hcdH hTH ka
        go_quiet (fail)
        have c0' : (w'.drewN nq).cell? ⟨bx, 0, none⟩ = some (.int .i64 3) := c0
        have c2' : (w'.drewN nq).cell? ⟨bx, 2, none⟩ = some (.int .i64 b) := c2
        have c3' : (w'.drewN nq).cell? ⟨bx, 3, none⟩ = some (.int .i64 ci) := c3
        have k1' : (w'.drewN nq).cell? ⟨pp, 1, none⟩ = some (.slice (some ⟨ff, 0, none⟩) o.flds.length o.flds.length) := k1
        have k2' : (w'.drewN nq).cell? ⟨H, 2, none⟩ = some (.slice (some ⟨R, 0, none⟩) 8 8) := k2
        have kf' : (w'.drewN nq).cell? ⟨ff, ci, none⟩ = some (.int .i64 y) := kf
        have kcol' : (w'.drewN nq).cell? ⟨pp, 2, none⟩ = some (.int .i64 o.col) := hcol.out
        have kv' : (w'.drewN nq).cell? ⟨R, b, none⟩ = some (.int .i64 v) := by rw [← hvH.out]; exact cell_of (hS0.out.below (drewN_lt w' nq)).rt (intsV_cell hbl)
        have hbx4 : Hid ((w'.drewN nq).heap[bx]? = some (.cells #[.int .i64 3, .int .i64 a, .int .i64 b, .int .i64 ci] 27 (0, 0))) := hbx0.out
        have hS4 : Hid (SpW (w'.drewN nq) G H s ps fs ov R qv) := hS0.out.below (drewN_lt _ _)
        have hK4 : Hid (Keep F w (w'.drewN nq)) := hK0.out.trans ((Keep.of (drewN_lt w' nq) hS0.out.lo.2.2).mono hGH.out.1)
        clear c0 c1 c2 c3 k1 k2 kf hcol hcolH hK0 hbx0 hS0 hrow
        generalize w'.drewN nq = W4 at *
        have k3 : W4.cell? ⟨H, 3, none⟩ = some (.bool s.cyc) := cell_of hS4.out.blk rfl
        have k0 : W4.cell? ⟨H, 0, none⟩ = some (.int .i64 s.mode) := cell_of hS4.out.blk rfl
        cases hcy : s.cyc with
        | false =>
          rw [hcy] at k3
          have htH : Hid (s = barM s z ci v) := (barM_out hiH.out hcy hmd z ci v).symm
          have hS5 : Hid (SpW W4 G H s ps fs ov R qv) := hS4
          have hK5 : Hid (Keep F w W4) := hK4
          have hbx5 : Hid _ := hbx4
          clear hcy kf' kcol' kv' c2' c3' k1' k2' hS4 hK4 hbx4 hy
          go_wp2_with fail
          clear c0' k3 k0
          have hput : Hid _ := SpW.put (c := ci) (b := b) hS5.out hgH.out htH.out (by omega) hr8 hb hvH.out
          obtain ⟨pa, pb, p2, pR, p1, ⟨u, pz⟩, pf⟩ := hput.out
          have pab : Hid _ := And.intro pa pb
          rw [← hffH.out] at p1 pz pf pab
          rw [← hppH.out] at p1
          clear pa pb hput hS5 hgH htH hffH hppH hiH
          have d1 : W4.cell? ⟨bx, 1, none⟩ = some (.int .i64 a) := cell_of hbx5.out rfl
          have d2 : W4.cell? ⟨bx, 2, none⟩ = some (.int .i64 b) := cell_of hbx5.out rfl
          have d3 : W4.cell? ⟨bx, 3, none⟩ = some (.int .i64 ci) := cell_of hbx5.out rfl
          clear hbx5
          go_wp2_with fail
          go_still_tail 15, (by kernel_rfl)
          go_wp2
          go_ret
          exact ⟨by rw [hc0H.out.1]; rfl, ⟨_, by rw [hc0H.out.2]; exact (pab.out.1.below (Below.drew (Below.refl _ _))).unbox hGH.out.1⟩, (hK5.out.trans (pab.out.2.mono hGH.out.1)).trans ((Keep.of (Below.drew (Below.refl _ _)) pab.out.1.lo.2.2).mono hGH.out.1)⟩
        | true =>
          rw [hcy] at k3
          have hcyH : Hid (s.cyc = true) := hcy
          clear hcy
          by_cases hm1 : s.mode = 1
          · rw [hm1] at k0
            have htH : Hid (s.shade y = barM s z ci v) := by show _ = _; rw [barM_1 hm1, hy.out]
            have hmH : Hid (s.mode = 1) := hm1
            clear hm1 hmd kcol' kv' c2' k2' hy
            have hsh : Hid (Calls Try.prog 67 #[.pointer (some ⟨H, 0, none⟩), .int .i64 y] W4.drew fun e w' => e = .returned (.tuple #[]) ∧ (∃ qv', SpW w' G H (s.shade y) ps fs ov R qv') ∧ Keep G W4 w') := (shade_calls W4.drew G H s ps fs ov R qv y (hS4.out.below (Below.drew (Below.refl _ _))) hl (by have := hiH.out.rowlen; omega)).mono fun e w' q => ⟨q.1, q.2.1, (Keep.of (Below.drew (Below.refl _ _)) hS4.out.lo.2.2).trans q.2.2⟩
            go_wp2_with fail
            go_still_tail 9, (by kernel_rfl)
            go_wp2_with fail
            refine (show Calls _ _ _ _ _ from hsh.out).mono ?_
            rintro e W5 ⟨rfl, ⟨qv5, hS5q⟩, hB5⟩
            have hS5 : Hid (SpW W5 G H (s.shade y) ps fs ov R qv5) := hS5q
            have hK5 : Hid (Keep F w W5) := hK4.out.trans (hB5.mono hGH.out.1)
            have hbx5 : Hid (W5.heap[bx]? = some (.cells #[.int .i64 3, .int .i64 a, .int .i64 b, .int .i64 ci] 27 (0, 0))) := (hB5.block bx hGH.out.2).trans hbx4.out
            have d0 : W5.cell? ⟨bx, 0, none⟩ = some (.int .i64 3) := cell_of hbx5.out rfl
            have e3 : W5.cell? ⟨H, 3, none⟩ = some (.bool true) := by rw [← hcyH.out, ← (shade_frame s y).2.2.1]; exact cell_of hS5q.blk rfl
            have e0 : W5.cell? ⟨H, 0, none⟩ = some (.int .i64 1) := by rw [← hmH.out, ← (shade_frame s y).1]; exact cell_of hS5q.blk rfl
            clear hS5q hB5 hsh hS4 hK4 hbx4 c0' c3' k1' k3 k0 kf'
            go_wp2_with fail
            clear e3 e0 d0
            have hput : Hid _ := SpW.put (c := ci) (b := b) hS5.out hgH.out htH.out (by omega) hr8 hb hvH.out
            obtain ⟨pa, pb, p2, pR, p1, ⟨u, pz⟩, pf⟩ := hput.out
            have pab : Hid _ := And.intro pa pb
            rw [← hffH.out] at p1 pz pf pab
            rw [← hppH.out] at p1
            clear pa pb hput hS5 hgH htH hffH hppH hiH
            have d1 : W5.cell? ⟨bx, 1, none⟩ = some (.int .i64 a) := cell_of hbx5.out rfl
            have d2 : W5.cell? ⟨bx, 2, none⟩ = some (.int .i64 b) := cell_of hbx5.out rfl
            have d3 : W5.cell? ⟨bx, 3, none⟩ = some (.int .i64 ci) := cell_of hbx5.out rfl
            clear hbx5
            go_wp2_with fail
            go_still_tail 15, (by kernel_rfl)
            go_wp2
            go_ret
            exact ⟨by rw [hc0H.out.1]; rfl, ⟨_, by rw [hc0H.out.2]; exact (pab.out.1.below (Below.drew (Below.refl _ _))).unbox hGH.out.1⟩, (hK5.out.trans (pab.out.2.mono hGH.out.1)).trans ((Keep.of (Below.drew (Below.refl _ _)) pab.out.1.lo.2.2).mono hGH.out.1)⟩
          · have hm2 : s.mode = 2 := by omega
            rw [hm2] at k0
            have hmH : Hid (s.mode = 2) := hm2
            by_cases hb3 : o.col = 3
            · have htH : Hid (s.shade v = barM s z ci v) := by show _ = _; rw [barM_2 hm2 hgH.out, if_pos hb3]
              rw [hb3] at kcol'
              clear hm1 hm2 hmd hb3 hy kf'
              have hsh : Hid (Calls Try.prog 67 #[.pointer (some ⟨H, 0, none⟩), .int .i64 v] W4.drew fun e w' => e = .returned (.tuple #[]) ∧ (∃ qv', SpW w' G H (s.shade v) ps fs ov R qv') ∧ Keep G W4 w') := (shade_calls W4.drew G H s ps fs ov R qv v (hS4.out.below (Below.drew (Below.refl _ _))) hl (by have := hiH.out.rowlen; omega)).mono fun e w' q => ⟨q.1, q.2.1, (Keep.of (Below.drew (Below.refl _ _)) hS4.out.lo.2.2).trans q.2.2⟩
              go_wp2_with fail
              go_still_tail 9, (by kernel_rfl)
              go_wp2_with fail
              refine (show Calls _ _ _ _ _ from hsh.out).mono ?_
              rintro e W5 ⟨rfl, ⟨qv5, hS5q⟩, hB5⟩
              have hS5 : Hid (SpW W5 G H (s.shade v) ps fs ov R qv5) := hS5q
              have hK5 : Hid (Keep F w W5) := hK4.out.trans (hB5.mono hGH.out.1)
              have hbx5 : Hid (W5.heap[bx]? = some (.cells #[.int .i64 3, .int .i64 a, .int .i64 b, .int .i64 ci] 27 (0, 0))) := (hB5.block bx hGH.out.2).trans hbx4.out
              have d0 : W5.cell? ⟨bx, 0, none⟩ = some (.int .i64 3) := cell_of hbx5.out rfl
              have e3 : W5.cell? ⟨H, 3, none⟩ = some (.bool true) := by rw [← hcyH.out, ← (shade_frame s v).2.2.1]; exact cell_of hS5q.blk rfl
              have e0 : W5.cell? ⟨H, 0, none⟩ = some (.int .i64 2) := by rw [← hmH.out, ← (shade_frame s v).1]; exact cell_of hS5q.blk rfl
              clear hS5q hB5 hsh hS4 hK4 hbx4 c0' c3' k1' k3 k0 c2' k2' kv' kcol'
              go_wp2_with fail
              clear e3 e0 d0
              have hput : Hid _ := SpW.put (c := ci) (b := b) hS5.out hgH.out htH.out (by omega) hr8 hb hvH.out
              obtain ⟨pa, pb, p2, pR, p1, ⟨u, pz⟩, pf⟩ := hput.out
              have pab : Hid _ := And.intro pa pb
              rw [← hffH.out] at p1 pz pf pab
              rw [← hppH.out] at p1
              clear pa pb hput hS5 hgH htH hffH hppH hiH
              have d1 : W5.cell? ⟨bx, 1, none⟩ = some (.int .i64 a) := cell_of hbx5.out rfl
              have d2 : W5.cell? ⟨bx, 2, none⟩ = some (.int .i64 b) := cell_of hbx5.out rfl
              have d3 : W5.cell? ⟨bx, 3, none⟩ = some (.int .i64 ci) := cell_of hbx5.out rfl
              clear hbx5
              go_wp2_with fail
              go_still_tail 15, (by kernel_rfl)
              go_wp2
              go_ret
              exact ⟨by rw [hc0H.out.1]; rfl, ⟨_, by rw [hc0H.out.2]; exact (pab.out.1.below (Below.drew (Below.refl _ _))).unbox hGH.out.1⟩, (hK5.out.trans (pab.out.2.mono hGH.out.1)).trans ((Keep.of (Below.drew (Below.refl _ _)) pab.out.1.lo.2.2).mono hGH.out.1)⟩
            · have htH : Hid (s = barM s z ci v) := by show _ = _; rw [barM_2 hm2 hgH.out, if_neg hb3]
              have hS5 : Hid (SpW W4 G H s ps fs ov R qv) := hS4
              have hK5 : Hid (Keep F w W4) := hK4
              have hbx5 : Hid _ := hbx4
              clear hm1 hm2 hmd kf' kv' c2' c3' k1' k2' hS4 hK4 hbx4 hy
              go_wp2_with fail
              clear c0' k3 k0 kcol'
              have hput : Hid _ := SpW.put (c := ci) (b := b) hS5.out hgH.out htH.out (by omega) hr8 hb hvH.out
              obtain ⟨pa, pb, p2, pR, p1, ⟨u, pz⟩, pf⟩ := hput.out
              have pab : Hid _ := And.intro pa pb
              rw [← hffH.out] at p1 pz pf pab
              rw [← hppH.out] at p1
              clear pa pb hput hS5 hgH htH hffH hppH hiH
              have d1 : W4.cell? ⟨bx, 1, none⟩ = some (.int .i64 a) := cell_of hbx5.out rfl
              have d2 : W4.cell? ⟨bx, 2, none⟩ = some (.int .i64 b) := cell_of hbx5.out rfl
              have d3 : W4.cell? ⟨bx, 3, none⟩ = some (.int .i64 ci) := cell_of hbx5.out rfl
              clear hbx5
              go_wp2_with fail
              go_still_tail 15, (by kernel_rfl)
              go_wp2
              go_ret
              exact ⟨by rw [hc0H.out.1]; rfl, ⟨_, by rw [hc0H.out.2]; exact (pab.out.1.below (Below.drew (Below.refl _ _))).unbox hGH.out.1⟩, (hK5.out.trans (pab.out.2.mono hGH.out.1)).trans ((Keep.of (Below.drew (Below.refl _ _)) pab.out.1.lo.2.2).mono hGH.out.1)⟩
      · have hc3 : Hid (cd = 3 ∧ T = s) := by
          have h1 := hcS.out
          rw [if_neg (by omega), if_neg (by omega)] at h1
          exact h1
        have hcl2 : (c ≥ (o.flds.length : Int)) := by omega
        go_quiet (fail)
        go_wp2
        go_ret
        exact ⟨by rw [hc3.out.1]; rfl, by rw [hc3.out.2]; exact ⟨qv, (hS0.out.below (drewN_lt _ _)).unbox hGH.out.1⟩, hK0.out.trans ((Keep.of (drewN_lt _ _) hS0.out.lo.2.2).mono hGH.out.1)⟩
end Go.Proofs.Ytchcdlelaklnnaa
