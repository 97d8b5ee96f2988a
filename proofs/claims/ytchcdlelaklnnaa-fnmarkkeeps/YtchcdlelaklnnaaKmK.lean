/- The program's marker: what a root holds, what a field's code is. -/
import Derived.Test.YtchcdlelaklnnaaKmH
import Derived.BigQuiet
namespace Go.Proofs.Ytchcdlelaklnnaa
set_option linter.unusedVariables false
open Go.ChangeShapes Go.WideShapes Go.ChangeAt Go.RowKit

set_option maxRecDepth 100000 in
set_option maxHeartbeats 1000000 in
theorem held_calls (w : World) (F : Nat → Prop) (M : Nat) (s : StM) (ps fs : List Nat) (ov tv : Value) (a : Nat) (h : ImW w F M s ps fs ov tv) (hi : InvM s) (hl : s.obs.length ≤ 400) (ha : a < 8) :
    (∀ o, getM s.obs (rootM s a) = some o → Calls Try.prog 52 #[.pointer (some ⟨M, 0, none⟩), .int .i64 a] w fun e w' => e = .returned (.pointer (some ⟨ps.getD ((rootM s a).toNat - 1) 0, 0, none⟩)) ∧ ∃ n, w' = w.drewN n) ∧
    (getM s.obs (rootM s a) = none → Calls Try.prog 52 #[.pointer (some ⟨M, 0, none⟩), .int .i64 a] w fun e w' => e = .returned (.pointer none) ∧ ∃ n, w' = w.drewN n) := by
  have hr := rootM_nat hi.rl ha
  have hrng := rootM_rng hi a
  have kr : w.cell? ⟨M, 2 + a, none⟩ = some (.int .i64 (rootM s a)) := by rw [hr]; exact h.mode.2.2.2.2.1 a ha
  have k1 : w.cell? ⟨M, 1, none⟩ = some ov := h.mode.2.1
  obtain ⟨tg, tc, rfl, htab⟩ := h.tab
  have kt := htab (rootM s a) hrng.1 hrng.2
  generalize rootM s a = z at kr kt hrng ⊢
  obtain ⟨zn, rfl⟩ : ∃ zn : Nat, z = zn := ⟨z.toNat, by omega⟩
  rw [Int.toNat_natCast] at kt ⊢
  have ha8 : (a : Int) < 8 := by omega
  have hz1 : (zn : Int) < (s.obs.length : Int) + 1 := by omega
  have hl' : (s.obs.length : Int) ≤ 400 := by omega
  clear htab hr h hi
  refine ⟨fun o hg => ?_, fun hg => ?_⟩
  · rw [hg] at kt
    clear hg
    simp only at kt
    generalize ps.getD (zn - 1) 0 = pp at kt
    go_enter Try.func52, Try.ntmps52
    go_wp2_with fail
    go_quiet (fail)
    go_wp2
    go_ret
    exact ⟨rfl, nq, rfl⟩
  · rw [hg] at kt
    clear hg
    simp only at kt
    go_enter Try.func52, Try.ntmps52
    go_wp2_with fail
    go_quiet (fail)
    go_wp2
    go_ret
    exact ⟨rfl, nq, rfl⟩
set_option maxRecDepth 100000 in
set_option maxHeartbeats 1000000 in
theorem fieldCode_calls (w : World) (F : Nat → Prop) (M : Nat) (s : StM) (ps fs : List Nat) (ov tv : Value) (a : Nat) (c : Int) (h : ImW w F M s ps fs ov tv) (hi : InvM s) (hl : s.obs.length ≤ 400) (ha : a < 8) (h6 : ∀ o ∈ s.obs, o.flds.length ≤ 6) :
    Calls Try.prog 50 #[.pointer (some ⟨M, 0, none⟩), .int .i64 a, .int .i64 c] w fun e w' => e = .returned (.int .i64 (fcodeM s (rootM s a) c)) ∧ ∃ n, w' = w.drewN n := by
  obtain ⟨hs, hn⟩ := held_calls w F M s ps fs ov tv a h hi hl ha
  cases hg : getM s.obs (rootM s a) with
  | none =>
    have hc : Hid _ := hn hg
    have hcd : Hid (fcodeM s (rootM s a) c = 2) := fcodeM_none hg
    generalize fcodeM s (rootM s a) c = cd at hcd
    clear hs hn h hi h6 hg
    go_enter Try.func50, Try.ntmps50
    go_wp2_with (go_at_call 52; refine (show Calls _ _ _ _ _ from hc.out).mono ?_; rintro e w1 ⟨rfl, n1, hw1⟩; have hw1H : Hid _ := hw1; clear hw1)
    go_ret
    exact ⟨by rw [hcd.out]; rfl, n1, hw1H.out⟩
  | some o =>
    have hc : Hid _ := hs o hg
    have hcd : Hid (fcodeM s (rootM s a) c = if 0 ≤ c ∧ c < (o.flds.length : Int) then 0 else 3) := fcodeM_some hg
    have hob := h.ob.get hg
    have ho6 : (o.flds.length : Int) ≤ 6 := by have := h6 o (getM_mem hg); omega
    generalize fcodeM s (rootM s a) c = cd at hcd
    generalize ps.getD ((rootM s a).toNat - 1) 0 = pp at hc hob
    generalize fs.getD ((rootM s a).toNat - 1) 0 = ff at hob
    have k1 : Hid (∀ n, (w.drewN n).cell? ⟨pp, 1, none⟩ = some (.slice (some ⟨ff, 0, none⟩) o.flds.length o.flds.length)) := fun n => cell_of hob.blk rfl
    have hwi : Hid (∀ W, Calls Try.prog 71 #[.int .i64 c, .int .i64 o.flds.length] W fun e w' => e = .returned (.bool (decide (0 ≤ c) && decide (c < (o.flds.length : Int)))) ∧ w' = W) := fun W => within_calls c _ W
    clear hs hn h hi h6 hg hob
    by_cases hin : 0 ≤ c ∧ c < (o.flds.length : Int)
    · have hb : (decide (0 ≤ c) && decide (c < (o.flds.length : Int))) = true := by simp [hin]
      rw [hb] at hwi
      have hcd0 : Hid (cd = 0) := by have := hcd.out; rw [if_pos hin] at this; exact this
      clear hcd hin hb
      go_enter Try.func50, Try.ntmps50
      go_wp2_with (first
        | (go_at_call 52; refine (show Calls _ _ _ _ _ from hc.out).mono ?_; rintro e w1 ⟨rfl, n1, hw1⟩; subst hw1; have kk := k1.out n1; have hD : Hid (∃ n, w.drewN n1 = w.drewN n) := ⟨n1, rfl⟩; generalize w.drewN n1 = W1 at kk hD ⊢)
        | (go_at_call 71; refine (show Calls _ _ _ _ _ from hwi.out _).mono ?_; rintro e w2 ⟨rfl, hw2⟩; subst hw2))
      go_ret
      exact ⟨by rw [hcd0.out]; rfl, hD.out⟩
    · have hb : (decide (0 ≤ c) && decide (c < (o.flds.length : Int))) = false := by simp; omega
      rw [hb] at hwi
      have hcd0 : Hid (cd = 3) := by have := hcd.out; rw [if_neg hin] at this; exact this
      clear hcd hin hb
      go_enter Try.func50, Try.ntmps50
      go_wp2_with (first
        | (go_at_call 52; refine (show Calls _ _ _ _ _ from hc.out).mono ?_; rintro e w1 ⟨rfl, n1, hw1⟩; subst hw1; have kk := k1.out n1; have hD : Hid (∃ n, w.drewN n1 = w.drewN n) := ⟨n1, rfl⟩; generalize w.drewN n1 = W1 at kk hD ⊢)
        | (go_at_call 71; refine (show Calls _ _ _ _ _ from hwi.out _).mono ?_; rintro e w2 ⟨rfl, hw2⟩; subst hw2))
      go_ret
      exact ⟨by rw [hcd0.out]; rfl, hD.out⟩
end Go.Proofs.Ytchcdlelaklnnaa

/- The program's marker: a field is written. -/
namespace Go.Proofs.Ytchcdlelaklnnaa
set_option linter.unusedVariables false
open Go.ChangeShapes Go.WideShapes Go.ChangeAt Go.RowKit

/-- One id is shaded, out of a box of its own. -/
theorem oneM_calls (w : World) (F : Nat → Prop) (M : Nat) (s : StM) (ps fs : List Nat) (ov tv : Value) (y : Int) (h : ImW w F M s ps fs ov tv) (hi : InvM s) (hl : s.obs.length ≤ 400) (hy : 0 ≤ y ∧ y ≤ (s.obs.length : Int)) :
    Calls Try.prog 72 #[.pointer (some ⟨M, 0, none⟩), .slice (some ⟨w.heap.size, 0, none⟩) 1 1] (w.alloc (.cells #[.int .i64 y] 2)) fun e w' => e = .returned (.tuple #[]) ∧ (∃ tv', ImW w' F M (s.shade y) ps fs ov tv') ∧ Keep F w w' := by
  have h1 := h.boxed (.cells #[.int .i64 y] 2)
  have hF := h.lo.2
  have := shadeM_calls (w.alloc (.cells #[.int .i64 y] 2)) (fun k => F k ∨ k = w.heap.size) M s ps fs ov tv [y] (some ⟨w.heap.size, 0, none⟩) 1 h1 hl (fun z hz => by
    have : z = y := by simpa using hz
    subst this
    exact hy) (by simp) (fun m => by have h1 := (hi.shades ([y].take m)).rowlen; rw [(shades_frame s _).2.2.2] at h1; omega) (fun W tv' m hW hK j hj => ⟨w.heap.size, 0, rfl, by
    have hj0 : j = 0 := by simp at hj; omega
    subst hj0
    rw [hK.cell (p := ⟨w.heap.size, 0 + 0, none⟩) (.inr rfl)]
    exact cell_of (heap_alloc_new _ _) rfl⟩)
  refine this.mono ?_
  rintro e w' ⟨rfl, ⟨tv', hI⟩, hK⟩
  exact ⟨rfl, ⟨tv', hI.unbox fun k q => .inl q⟩, (Keep.of (below_1 _ _) hF).trans (hK.mono fun k q => .inl q)⟩
/-- What the last store of a write meets, and what is behind it. -/
theorem ImW.put {W : World} {G : Nat → Prop} {M : Nat} {s t : StM} {ps fs : List Nat} {ov tv : Value} (h : ImW W G M t ps fs ov tv) {z : Int} {o : ObM} (hg : getM s.obs z = some o) {c : Nat} {v : Int} (ht : t = barM s z c v) (hc : c < o.flds.length) :
    ImW (W.setCell ⟨fs.getD (z.toNat - 1) 0, c, none⟩ (.int .i64 v)) G M (putM s z c v) ps fs ov tv ∧ Keep G W (W.setCell ⟨fs.getD (z.toNat - 1) 0, c, none⟩ (.int .i64 v)) ∧ W.cell? ⟨ps.getD (z.toNat - 1) 0, 1, none⟩ = some (.slice (some ⟨fs.getD (z.toNat - 1) 0, 0, none⟩) o.flds.length o.flds.length) ∧ (∃ u, W.cell? ⟨fs.getD (z.toNat - 1) 0, c, none⟩ = some u) ∧ W.frozen? ⟨fs.getD (z.toNat - 1) 0, c, none⟩ = false := by
  subst ht
  obtain ⟨o', hg', hf', _⟩ := (bar_sh s z c v).to z o hg
  have a := h.ob.get hg'
  obtain ⟨h1, h2⟩ := h.setFld hg' c v
  refine ⟨h1, h2, ?_, ⟨_, cell_of a.row (intsV_cell (zs := o'.flds) (j := c) (by rw [hf']; exact hc))⟩, free_of a.row⟩
  have := cell_of a.blk (j := 1) rfl
  rw [hf'] at this
  exact this
set_option maxRecDepth 100000 in
set_option maxHeartbeats 2000000 in
theorem set_calls (w : World) (F : Nat → Prop) (M : Nat) (s : StM) (ps fs : List Nat) (ov tv : Value) (z v : Int) (c : Nat) (o : ObM) (pp : Nat) (h : ImW w F M s ps fs ov tv) (hi : InvM s) (hl : s.obs.length ≤ 400) (hg : getM s.obs z = some o) (hc : c < o.flds.length) (ho6 : o.flds.length ≤ 6) (hv : 0 ≤ v ∧ v ≤ (s.obs.length : Int)) (hpp : pp = ps.getD (z.toNat - 1) 0) :
    Calls Try.prog 53 #[.pointer (some ⟨M, 0, none⟩), .pointer (some ⟨pp, 0, none⟩), .int .i64 c, .int .i64 v] w fun e w' => e = .returned (.tuple #[]) ∧ (∃ tv', ImW w' F M (putM s z c v) ps fs ov tv') ∧ Keep F w w' := by
  have k0 : w.cell? ⟨M, 0, none⟩ = some (.int .i64 s.mode) := h.mode.1
  have hob := h.ob.get hg
  rw [← hpp] at hob
  obtain ⟨ff, hff⟩ : ∃ ff, ff = fs.getD (z.toNat - 1) 0 := ⟨_, rfl⟩
  rw [← hff] at hob
  have k1 : w.cell? ⟨pp, 1, none⟩ = some (.slice (some ⟨ff, 0, none⟩) o.flds.length o.flds.length) := cell_of hob.blk rfl
  have k2 : w.cell? ⟨pp, 2, none⟩ = some (.int .i64 o.col) := cell_of hob.blk rfl
  have kf : w.cell? ⟨ff, c, none⟩ = some (.int .i64 (fieldM s z c)) := by rw [fieldM_nat hg hc]; exact cell_of hob.row (intsV_cell hc)
  have hcl : (c : Int) < (o.flds.length : Int) := by omega
  have ho6' : (o.flds.length : Int) ≤ 6 := by omega
  have hyr := fieldM_rng hi z c
  have hsh : Hid (∀ y : Int, 0 ≤ y ∧ y ≤ (s.obs.length : Int) → Calls Try.prog 72 #[.pointer (some ⟨M, 0, none⟩), .slice (some ⟨w.heap.size, 0, none⟩) 1 1] (w.alloc (.cells #[.int .i64 y] 2)) fun e w' => e = .returned (.tuple #[]) ∧ (∃ tv', ImW w' F M (s.shade y) ps fs ov tv') ∧ Keep F w w') := fun y hy => oneM_calls w F M s ps fs ov tv y h hi hl hy
  have hput : Hid (∀ (W : World) (t : StM) (tv' : Value), ImW W F M t ps fs ov tv' → t = barM s z c v → ImW (W.setCell ⟨ff, c, none⟩ (.int .i64 v)) F M (putM s z c v) ps fs ov tv' ∧ Keep F W (W.setCell ⟨ff, c, none⟩ (.int .i64 v)) ∧ W.cell? ⟨pp, 1, none⟩ = some (.slice (some ⟨ff, 0, none⟩) o.flds.length o.flds.length) ∧ (∃ u, W.cell? ⟨ff, c, none⟩ = some u) ∧ W.frozen? ⟨ff, c, none⟩ = false) := fun W t tv' hW ht => by
    have := hW.put (c := c) (v := v) hg ht hc
    rw [hpp, hff]
    exact this
  have hH : Hid (ImW w F M s ps fs ov tv) := h
  have hgH : Hid (getM s.obs z = some o) := hg
  have hvH : Hid (0 ≤ v ∧ v ≤ (s.obs.length : Int)) := hv
  clear h hi hob hff hpp hg hv
  by_cases hm1 : s.mode = 1
  · rw [hm1] at k0
    have hb : Hid (s.shade (fieldM s z c) = barM s z c v) := (barM_1 hm1 z c v).symm
    have hshy : Hid _ := hsh.out (fieldM s z c) hyr
    generalize fieldM s z c = y at *
    clear hm1 hH hgH hsh hyr hvH k2
    go_enter Try.func53, Try.ntmps53
    go_wp2_with (go_at_call 72; refine (show Calls _ _ _ _ _ from hshy.out).mono ?_; rintro e w1 ⟨rfl, ⟨tv1, hI1⟩, hK1⟩; obtain ⟨pa, pb, p1, ⟨u1, pz⟩, pf⟩ := hput.out w1 _ tv1 hI1 hb.out; have hpa : Hid _ := pa; have hpb : Hid _ := hK1.trans pb; clear pa pb hI1 hK1)
    first | (refine bodyPost_ret (results_none rfl _ _ _) rfl ?_) | go_end0
    exact ⟨rfl, ⟨_, hpa.out⟩, hpb.out⟩
  · have hbar : Hid (barM s z c v = if o.col = 3 then s.shade v else s) := by
      show barM s z c v = _
      unfold barM
      rw [if_neg hm1]
      simp [colM, hgH.out]
    by_cases hb3 : o.col = 3
    · rw [hb3] at k2
      have hb : Hid (s.shade v = barM s z c v) := by show _ = _; rw [hbar.out, if_pos hb3]
      have hshy : Hid _ := hsh.out v hvH.out
      clear hbar hH hgH hsh hyr hvH hb3 k1 kf
      go_enter Try.func53, Try.ntmps53
      go_wp2_with (go_at_call 72; refine (show Calls _ _ _ _ _ from hshy.out).mono ?_; rintro e w1 ⟨rfl, ⟨tv1, hI1⟩, hK1⟩; obtain ⟨pa, pb, p1, ⟨u1, pz⟩, pf⟩ := hput.out w1 _ tv1 hI1 hb.out; have hpa : Hid _ := pa; have hpb : Hid _ := hK1.trans pb; clear pa pb hI1 hK1)
      first | (refine bodyPost_ret (results_none rfl _ _ _) rfl ?_) | go_end0
      exact ⟨rfl, ⟨_, hpa.out⟩, hpb.out⟩
    · have hb : s = barM s z c v := by rw [hbar.out, if_neg hb3]
      obtain ⟨pa, pb, p1, ⟨u1, pz⟩, pf⟩ := hput.out w s tv hH.out hb
      have hpa : Hid _ := pa
      have hpb : Hid _ := pb
      clear hbar hH hgH hsh hyr hvH kf hb pa pb hput
      go_enter Try.func53, Try.ntmps53
      go_wp2
      first | (refine bodyPost_ret (results_none rfl _ _ _) rfl ?_) | go_end0
      exact ⟨rfl, ⟨_, hpa.out⟩, hpb.out⟩
end Go.Proofs.Ytchcdlelaklnnaa
