/- The program's marker: a field is written. -/
import Derived.Test.YtcigiilhlealdaaKmK
namespace Go.Proofs.Ytcigiilhlealdaa
set_option linter.unusedVariables false
open Go.ChangeShapes Go.WideShapes Go.ChangeAt Go.RowKit

/-- One id is shaded, out of a box of its own. -/
theorem oneM_calls (w : World) (F : Nat → Prop) (M : Nat) (s : StM) (ps fs : List Nat) (ov tv : Value) (y : Int) (h : ImW w F M s ps fs ov tv) (hi : InvM s) (hl : s.obs.length ≤ 400) (hy : 0 ≤ y ∧ y ≤ (s.obs.length : Int)) :
    Calls Try.prog 83 #[.pointer (some ⟨M, 0, none⟩), .slice (some ⟨w.heap.size, 0, none⟩) 1 1] (w.alloc (.cells #[.int .i64 y] 2)) fun e w' => e = .returned (.tuple #[]) ∧ (∃ tv', ImW w' F M (s.shade y) ps fs ov tv') ∧ Keep F w w' := by
  have h1 := h.boxed (.cells #[.int .i64 y] 2)
  have hF := h.lo.2
  have := shadeM_calls (w.alloc (.cells #[.int .i64 y] 2)) (fun k => F k ∨ k = w.heap.size) M s ps fs ov tv [y] (some ⟨w.heap.size, 0, none⟩) 1 h1 hl (fun z hz => by
    have : z = y := by simpa using hz
    subst this
    exact hy) (by simp) (fun m => by have h1 := (hi.shades ([y].take m)).rowlen; rw [(shades_frame s _).2.2.2] at h1; omega) (fun W tv' m hW hK j hj => ⟨w.heap.size, 0, rfl, by
    have hj0 : j = 0 := by simp at hj; omega
    subst hj0
    rw [hK.cell (p := ⟨w.heap.size, 0 + 0, none⟩) (.inr rfl)]
    exact cell_of (heap_alloc_new _ _) rfl⟩)
  refine this.mono ?_
  rintro e w' ⟨rfl, ⟨tv', hI⟩, hK⟩
  exact ⟨rfl, ⟨tv', hI.unbox fun k q => .inl q⟩, (Keep.of (below_1 _ _) hF).trans (hK.mono fun k q => .inl q)⟩
/-- What the last store of a write meets, and what is behind it. -/
theorem ImW.put {W : World} {G : Nat → Prop} {M : Nat} {s t : StM} {ps fs : List Nat} {ov tv : Value} (h : ImW W G M t ps fs ov tv) {z : Int} {o : ObM} (hg : getM s.obs z = some o) {c : Nat} {v : Int} (ht : t = barM s z c v) (hc : c < o.flds.length) :
    ImW (W.setCell ⟨fs.getD (z.toNat - 1) 0, c, none⟩ (.int .i64 v)) G M (putM s z c v) ps fs ov tv ∧ Keep G W (W.setCell ⟨fs.getD (z.toNat - 1) 0, c, none⟩ (.int .i64 v)) ∧ W.cell? ⟨ps.getD (z.toNat - 1) 0, 1, none⟩ = some (.slice (some ⟨fs.getD (z.toNat - 1) 0, 0, none⟩) o.flds.length o.flds.length) ∧ (∃ u, W.cell? ⟨fs.getD (z.toNat - 1) 0, c, none⟩ = some u) ∧ W.frozen? ⟨fs.getD (z.toNat - 1) 0, c, none⟩ = false := by
  subst ht
  obtain ⟨o', hg', hf', _⟩ := (bar_sh s z c v).to z o hg
  have a := h.ob.get hg'
  obtain ⟨h1, h2⟩ := h.setFld hg' c v
  refine ⟨h1, h2, ?_, ⟨_, cell_of a.row (intsV_cell (zs := o'.flds) (j := c) (by rw [hf']; exact hc))⟩, free_of a.row⟩
  have := cell_of a.blk (j := 1) rfl
  rw [hf'] at this
  exact this
set_option maxRecDepth 100000 in
set_option maxHeartbeats 2000000 in
theorem set_calls (w : World) (F : Nat → Prop) (M : Nat) (s : StM) (ps fs : List Nat) (ov tv : Value) (z v : Int) (c : Nat) (o : ObM) (pp : Nat) (h : ImW w F M s ps fs ov tv) (hi : InvM s) (hl : s.obs.length ≤ 400) (hg : getM s.obs z = some o) (hc : c < o.flds.length) (ho6 : o.flds.length ≤ 6) (hv : 0 ≤ v ∧ v ≤ (s.obs.length : Int)) (hpp : pp = ps.getD (z.toNat - 1) 0) :
    Calls Try.prog 69 #[.pointer (some ⟨M, 0, none⟩), .pointer (some ⟨pp, 0, none⟩), .int .i64 c, .int .i64 v] w fun e w' => e = .returned (.tuple #[]) ∧ (∃ tv', ImW w' F M (putM s z c v) ps fs ov tv') ∧ Keep F w w' := by
  have k0 : w.cell? ⟨M, 0, none⟩ = some (.int .i64 s.mode) := h.mode.1
  have hob := h.ob.get hg
  rw [← hpp] at hob
  obtain ⟨ff, hff⟩ : ∃ ff, ff = fs.getD (z.toNat - 1) 0 := ⟨_, rfl⟩
  rw [← hff] at hob
  have k1 : w.cell? ⟨pp, 1, none⟩ = some (.slice (some ⟨ff, 0, none⟩) o.flds.length o.flds.length) := cell_of hob.blk rfl
  have k2 : w.cell? ⟨pp, 2, none⟩ = some (.int .i64 o.col) := cell_of hob.blk rfl
  have kf : w.cell? ⟨ff, c, none⟩ = some (.int .i64 (fieldM s z c)) := by rw [fieldM_nat hg hc]; exact cell_of hob.row (intsV_cell hc)
  have hcl : (c : Int) < (o.flds.length : Int) := by omega
  have ho6' : (o.flds.length : Int) ≤ 6 := by omega
  have hyr := fieldM_rng hi z c
  have hsh : Hid (∀ y : Int, 0 ≤ y ∧ y ≤ (s.obs.length : Int) → Calls Try.prog 83 #[.pointer (some ⟨M, 0, none⟩), .slice (some ⟨w.heap.size, 0, none⟩) 1 1] (w.alloc (.cells #[.int .i64 y] 2)) fun e w' => e = .returned (.tuple #[]) ∧ (∃ tv', ImW w' F M (s.shade y) ps fs ov tv') ∧ Keep F w w') := fun y hy => oneM_calls w F M s ps fs ov tv y h hi hl hy
  have hput : Hid (∀ (W : World) (t : StM) (tv' : Value), ImW W F M t ps fs ov tv' → t = barM s z c v → ImW (W.setCell ⟨ff, c, none⟩ (.int .i64 v)) F M (putM s z c v) ps fs ov tv' ∧ Keep F W (W.setCell ⟨ff, c, none⟩ (.int .i64 v)) ∧ W.cell? ⟨pp, 1, none⟩ = some (.slice (some ⟨ff, 0, none⟩) o.flds.length o.flds.length) ∧ (∃ u, W.cell? ⟨ff, c, none⟩ = some u) ∧ W.frozen? ⟨ff, c, none⟩ = false) := fun W t tv' hW ht => by
    have := hW.put (c := c) (v := v) hg ht hc
    rw [hpp, hff]
    exact this
  have hH : Hid (ImW w F M s ps fs ov tv) := h
  have hgH : Hid (getM s.obs z = some o) := hg
  have hvH : Hid (0 ≤ v ∧ v ≤ (s.obs.length : Int)) := hv
  clear h hi hob hff hpp hg hv
  by_cases hm1 : s.mode = 1
  · rw [hm1] at k0
    have hb : Hid (s.shade (fieldM s z c) = barM s z c v) := (barM_1 hm1 z c v).symm
    have hshy : Hid _ := hsh.out (fieldM s z c) hyr
    generalize fieldM s z c = y at *
    clear hm1 hH hgH hsh hyr hvH k2
    go_enter Try.func69, Try.ntmps69
    go_wp2_with (go_at_call 83; refine (show Calls _ _ _ _ _ from hshy.out).mono ?_; rintro e w1 ⟨rfl, ⟨tv1, hI1⟩, hK1⟩; obtain ⟨pa, pb, p1, ⟨u1, pz⟩, pf⟩ := hput.out w1 _ tv1 hI1 hb.out; have hpa : Hid _ := pa; have hpb : Hid _ := hK1.trans pb; clear pa pb hI1 hK1)
    first | (refine bodyPost_ret (results_none rfl _ _ _) rfl ?_) | go_end0
    exact ⟨rfl, ⟨_, hpa.out⟩, hpb.out⟩
  · have hbar : Hid (barM s z c v = if o.col = 3 then s.shade v else s) := by
      show barM s z c v = _
      unfold barM
      rw [if_neg hm1]
      simp [colM, hgH.out]
    by_cases hb3 : o.col = 3
    · rw [hb3] at k2
      have hb : Hid (s.shade v = barM s z c v) := by show _ = _; rw [hbar.out, if_pos hb3]
      have hshy : Hid _ := hsh.out v hvH.out
      clear hbar hH hgH hsh hyr hvH hb3 k1 kf
      go_enter Try.func69, Try.ntmps69
      go_wp2_with (go_at_call 83; refine (show Calls _ _ _ _ _ from hshy.out).mono ?_; rintro e w1 ⟨rfl, ⟨tv1, hI1⟩, hK1⟩; obtain ⟨pa, pb, p1, ⟨u1, pz⟩, pf⟩ := hput.out w1 _ tv1 hI1 hb.out; have hpa : Hid _ := pa; have hpb : Hid _ := hK1.trans pb; clear pa pb hI1 hK1)
      first | (refine bodyPost_ret (results_none rfl _ _ _) rfl ?_) | go_end0
      exact ⟨rfl, ⟨_, hpa.out⟩, hpb.out⟩
    · have hb : s = barM s z c v := by rw [hbar.out, if_neg hb3]
      obtain ⟨pa, pb, p1, ⟨u1, pz⟩, pf⟩ := hput.out w s tv hH.out hb
      have hpa : Hid _ := pa
      have hpb : Hid _ := pb
      clear hbar hH hgH hsh hyr hvH kf hb pa pb hput
      go_enter Try.func69, Try.ntmps69
      go_wp2
      first | (refine bodyPost_ret (results_none rfl _ _ _) rfl ?_) | go_end0
      exact ⟨rfl, ⟨_, hpa.out⟩, hpb.out⟩
end Go.Proofs.Ytcigiilhlealdaa
