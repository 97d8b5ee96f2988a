/- The program's tour: one number comes; the tour's start. -/
import Derived.Test.YtkpeimklcoggkaaRcK
namespace Go.Proofs.Ytkpeimklcoggkaa
set_option linter.unusedVariables false
open Go.ChangeShapes Go.WideShapes Go.ChangeAt Go.RowKit Go.Maps

theorem TourW.at1 {w wr w1 : World} {u0 : Value} {T B R M : Nat} {rv : Value} {row : List Int} (h : TourW w wr u0 T B R M rv row) (hg1 : wr.grownBy w1 (some M)) : w1.cell? ⟨R, 0, none⟩ = some rv :=
  hg1.cell h.r0 (fun e => h.ne.2.2.1 (by cases e; rfl))
theorem TourW.own1 {w wr w1 : World} {u0 : Value} {T B R M : Nat} {rv : Value} {row : List Int} (h : TourW w wr u0 T B R M rv row) (hg1 : wr.grownBy w1 (some M)) (o : Obj) : (w1.alloc o).ownsRow w.heap.size 2 1 rv row.length (row.map (Value.int .i64)) :=
  own_alloc (own_kept h.own (fun g hg => hg1.block g (own_lt h.own hg).2 (fun e => h.ap.2.2.2 (by rw [hg, e])))) o
theorem TourW.room {w wr w1 w2 : World} {u0 : Value} {T B R M : Nat} {rv : Value} {row : List Int} {o : Obj} (h : TourW w wr u0 T B R M rv row) (hg1 : wr.grownBy w1 (some M)) (hg2 : (w1.alloc o).grownBy w2 rv.ownBlock) : w2.cell? ⟨R, 0, none⟩ = some rv ∧ w2.frozen? ⟨R, 0, none⟩ = false := by
  have s1 := hg1.size
  have i3 := h.hi.2.2
  have blk : w2.heap[R]? = wr.heap[R]? := by
    rw [hg2.block R (by simp; omega) (fun e => h.ap.2.2.1 e.symm), Below.heap_alloc _ _ _ (by omega), hg1.block R i3 (fun e => h.ne.2.2.1 (by cases e; rfl))]
  exact ⟨(World.cell?_of_block (w := wr) blk).trans h.r0, (World.frozen?_of_block (w := wr) blk).trans h.rf⟩

set_option maxRecDepth 1000000 in
set_option maxHeartbeats 2000000 in
theorem come_calls (n : Int) (w wr : World) (a0 : Option Addr) (N c0 T B R M : Nat) (rv : Value) (row : List Int) (hN : N ≤ 4000) (hrow : row.length ≤ 4000) (h : TourW w wr (.slice a0 N c0) T B R M rv row) :
    Calls Try.prog 25 #[.int .i64 n, .pointer (some ⟨B, 0, none⟩), .pointer (some ⟨R, 0, none⟩)] wr fun e w' => e = .returned (.tuple #[]) ∧ ∃ rv', TourW w w' (.slice a0 N c0) T B R M rv' (comeL N row n) := by
  obtain ⟨i2, hi2', hz2, hs2, hb2⟩ := elemI
  obtain ⟨ra, rc, rfl⟩ := own_form h.own
  have hH : Hid (TourW w wr (.slice a0 N c0) T B R M (.slice ra row.length rc) row) := h
  have hcB := h.b0
  have hcT := h.t0
  have hcR := h.r0
  have hN' : (N : Int) ≤ 4000 := by omega
  by_cases hbt : 1 ≤ n ∧ n ≤ (N : Int)
  · have hbtw : btw n 1 N = true := by simp [btw, hbt.1, hbt.2]
    have hmeet : Hid (Calls Try.prog 27 #[.pointer (some ⟨T, 0, none⟩), .int .i64 n] wr fun e w' => ∃ p : Int, e = .returned (.tuple #[.int .i64 p, .bool (!decide (n ∈ row))]) ∧ (n ∈ row → w' = wr) ∧ (n ∉ row → MetMap w' M (row ++ [n]) ∧ wr.grownBy w' (some M))) :=
      meet_calls T M n row wr (by omega) (by omega) h.t1 h.met
    obtain ⟨ln, hln⟩ : ∃ ln, ln = row.length := ⟨_, rfl⟩
    have hlnH : Hid (ln = row.length) := hln
    rw [← hln] at hH hcR hrow
    clear hln h
    by_cases hr : n ∈ row
    · have hcl : Hid (comeL N row n = row) := by show _ = _; unfold comeL; rw [if_neg]; intro q; exact q.2.2 hr
      go_enter Try.func25, Try.ntmps25
      go_wp2_with (first
        | (go_at_call 26; refine (between_calls _ _ _ _).mono ?_; rintro e wz ⟨rfl, rfl⟩; rw [hbtw])
        | (go_at_call 27; refine hmeet.out.mono ?_; rintro e w1 ⟨p, rfl, hsame, hnew⟩; rw [hsame hr, decide_eq_true hr]))
      first | (refine bodyPost_ret (results_none rfl _ _ _) rfl ?_) | go_end0
      exact ⟨rfl, _, by rw [hcl.out]; exact hH.out⟩
    · have hcl : Hid (comeL N row n = row ++ [n]) := by show _ = _; unfold comeL; rw [if_pos ⟨hbt.1, hbt.2, hr⟩]
      go_enter Try.func25, Try.ntmps25
      go_wp2_with (first
        | (go_at_call 26; refine (between_calls _ _ _ _).mono ?_; rintro e wz ⟨rfl, rfl⟩; rw [hbtw])
        | (go_at_call 27; refine hmeet.out.mono ?_; rintro e w1 ⟨p, rfl, hsame, hnew⟩; rw [decide_eq_false hr]; obtain ⟨hm1, hg1⟩ := hnew hr; clear hnew hsame; have hcR1 := hH.out.at1 hg1)
        | (refine wpList_append_own_at _ rfl (.tmp 21) (.tmp 23) 23 rfl w.heap.size 2 i2 (.int .i64 0) 1 8 Try.underlying23 hi2' hz2 hs2 hb2 rfl (by omega) _ ln _ rfl (by rw [hlnH.out]; exact hlnH.out ▸ hH.out.own1 hg1 _) ⟨w1.heap.size, 0, none⟩ 1 1 [.int .i64 n] rfl rfl (cell_one_new _ _ _) (by simp [Value.oneCell']) (by unfold maxLen; omega) (by omega) (by have := hH.out.hb.size; have := hg1.size; simp; omega) ?_; intro v' w2 h1 h2 h3 h4; obtain ⟨hcR2, hfR2⟩ := hH.out.room hg1 h2; obtain ⟨va, vc, rfl⟩ := own_form h1))
      first | (refine bodyPost_ret (results_none rfl _ _ _) rfl ?_) | go_end0
      refine ⟨rfl, .slice va (ln + 1) vc, ?_⟩
      rw [hcl.out]
      have h2' : (w1.alloc (.cells #[.int .i64 n] 2)).grownBy w2 (Value.slice ra ln rc).ownBlock := h2
      exact hH.out.come (w1 := w1) (w2 := w2) (rv' := .slice va (ln + 1) vc) hm1 hg1 h2' (by rw [← hlnH.out]; exact h1) h4
  · have hbtw : btw n 1 N = false := by
      by_cases q : 1 ≤ n
      · simp [btw, q]; omega
      · simp [btw, q]
    have hcl : Hid (comeL N row n = row) := by show _ = _; unfold comeL; rw [if_neg]; intro q; exact hbt ⟨q.1, q.2.1⟩
    clear hbt h
    go_enter Try.func25, Try.ntmps25
    go_wp2_with (first
      | (go_at_call 26; refine (between_calls _ _ _ _).mono ?_; rintro e wz ⟨rfl, rfl⟩; rw [hbtw]))
    first | (refine bodyPost_ret (results_none rfl _ _ _) rfl ?_) | go_end0
    exact ⟨rfl, _, by rw [hcl.out]; exact hH.out⟩

set_option maxRecDepth 1000000 in
set_option maxHeartbeats 2000000 in
theorem newTour_calls (a0 : Option Addr) (N c0 : Nat) (w : World) : Calls Try.prog 17 #[.slice a0 N c0] w fun e w' => ∃ M : Nat, e = .returned (.agg #[.slice a0 N c0, .map (some M)]) ∧ w.heap.size ≤ M ∧ MetMap w' M [] ∧ Below w.heap.size w w' := by
  have hmm := @run_makeMap Try.prog
  go_enter Try.func17, Try.ntmps17
  go_wp2
  refine bodyPost_ret (v := .agg #[.slice a0 N c0, .map (some (w.heap.size + 1))]) (results_cell_mid rfl _ _ w.heap.size [.slice a0 N c0, .map (some (w.heap.size + 1))] _ rfl (rangeAt_heap (by rw [Below.heap_alloc _ _ _ (by simp)]; exact heap_alloc_new w _)) Try.underlying46 rfl (by kernel_rfl)) rfl ⟨w.heap.size + 1, rfl, by omega, ⟨.map [], by simpa using World.ownsMap_made (H := Unit) (w.alloc (.cells #[.slice a0 N c0, .map (some (w.heap.size + 1))] 46)) Try.prog 2 (plainElem Try.prog 2), fun z => by simp [Maps.has]⟩, ((Below.refl _ _).alloc (Nat.le_refl _) _).alloc (by simp) _⟩
end Go.Proofs.Ytkpeimklcoggkaa
