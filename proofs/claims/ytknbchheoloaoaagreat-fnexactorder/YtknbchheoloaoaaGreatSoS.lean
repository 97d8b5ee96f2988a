/- Small functions of the program: races of two acts, comparisons, moments. -/
import Derived.Test.YtknbchheoloaoaaGreatSoP
import Derived.Test.YtknbchheoloaoaaGreatLtG
import Derived.StillTailTactics
namespace Go.Proofs.YtknbchheoloaoaaGreat
set_option linter.unusedVariables false
open Go.ChangeShapes Go.WideShapes Go.ChangeAt Go.RowKit

theorem heap_last3 (w : World) (a b c : Obj) : (((w.alloc a).alloc b).alloc c).heap[w.heap.size + 2]? = some c := by
 have h := heap_alloc_new ((w.alloc a).alloc b) c
 simpa using h
set_option maxRecDepth 1000000 in
set_option maxHeartbeats 2000000 in
theorem raceOf_calls (t k u m : Int) (w : World) : Calls Tryz.prog 59 #[.agg #[.int .i64 t, .int .i64 k], .agg #[.int .i64 u, .int .i64 m]] w fun e w' => e = .returned (.agg #[.int .i64 (mkRace t k u m).t, .int .i64 (mkRace t k u m).a, .int .i64 (mkRace t k u m).u, .int .i64 (mkRace t k u m).b]) ∧ Below w.heap.size w w' := by
 by_cases h : u < t
 ·have e : Hid (mkRace t k u m = ⟨u, m, t, k⟩) := by show _ = _; simp [mkRace, h]
  generalize mkRace t k u m = r at e ⊢
  go_enter Tryz.func59, Tryz.ntmps59
  go_wp2
  refine bodyPost_ret (v := .agg #[.int .i64 u, .int .i64 m, .int .i64 t, .int .i64 k]) (results_cell_mid rfl _ _ (w.heap.size + 2) [.int .i64 u, .int .i64 m, .int .i64 t, .int .i64 k] _ rfl (rangeAt_heap (heap_last3 w _ _ _)) Tryz.underlying89 rfl (by kernel_rfl)) rfl ⟨by rw [e.out], below_3 w _ _ _⟩
 ·have e : Hid (mkRace t k u m = ⟨t, k, u, m⟩) := by show _ = _; simp [mkRace, h]
  generalize mkRace t k u m = r at e ⊢
  go_enter Tryz.func59, Tryz.ntmps59
  go_wp2
  refine bodyPost_ret (v := .agg #[.int .i64 t, .int .i64 k, .int .i64 u, .int .i64 m]) (results_cell_mid rfl _ _ (w.heap.size + 2) [.int .i64 t, .int .i64 k, .int .i64 u, .int .i64 m] _ rfl (rangeAt_heap (heap_last3 w _ _ _)) Tryz.underlying89 rfl (by kernel_rfl)) rfl ⟨by rw [e.out], below_3 w _ _ _⟩

set_option maxRecDepth 1000000 in
set_option maxHeartbeats 2000000 in
theorem isNaN_calls (a : Int) (w : World) : Calls Tryz.prog 83 #[.int .i64 a] w fun e w' => e = .returned (.bool false) ∧ w' = w := by
 have h : (a != a) = false := by simp
 go_enter Tryz.func83, Tryz.ntmps83
 go_wp2
 go_ret
 exact ⟨by simp, rfl⟩
set_option maxRecDepth 1000000 in
set_option maxHeartbeats 2000000 in
theorem compare_calls (a b : Int) (w : World) : Calls Tryz.prog 57 #[.int .i64 a, .int .i64 b] w fun e w' => e = .returned (.int .i64 (signI a b)) ∧ w' = w := by
 have hn : Hid (∀ (a : Int) (W : World), Calls Tryz.prog 83 #[.int .i64 a] W fun e w' => e = .returned (.bool false) ∧ w' = W) := fun a W => isNaN_calls a W
 by_cases h1 : a < b
 ·have e : Hid (signI a b = -1) := by show _ = _; simp [signI, h1]
  generalize signI a b = r at e ⊢
  go_enter Tryz.func57, Tryz.ntmps57
  go_wp2_with (go_at_call 83; refine (hn.out _ _).mono ?_; rintro e w2 ⟨rfl, rfl⟩)
  go_ret
  exact ⟨by rw [e.out]; rfl, rfl⟩
 ·by_cases h2 : b < a
  ·have e : Hid (signI a b = 1) := by show _ = _; simp [signI, h1, h2]
   generalize signI a b = r at e ⊢
   go_enter Tryz.func57, Tryz.ntmps57
   go_wp2_with (go_at_call 83; refine (hn.out _ _).mono ?_; rintro e w2 ⟨rfl, rfl⟩)
   go_ret
   exact ⟨by rw [e.out]; rfl, rfl⟩
  ·have e : Hid (signI a b = 0) := by show _ = _; simp [signI, h1, h2]
   generalize signI a b = r at e ⊢
   go_enter Tryz.func57, Tryz.ntmps57
   go_wp2_with (go_at_call 83; refine (hn.out _ _).mono ?_; rintro e w2 ⟨rfl, rfl⟩)
   go_ret
   exact ⟨by rw [e.out]; rfl, rfl⟩

set_option maxRecDepth 1000000 in
set_option maxHeartbeats 2000000 in
theorem isWrite_calls (a : ActL) (w : World) : Calls Tryz.prog 77 #[.agg #[.int .i64 a.kind, .int .i64 a.var, .int .i64 a.n]] w fun e w' => e = .returned (.bool (isW a)) ∧ Below w.heap.size w w' := by
 obtain ⟨k, v, n⟩ := a
 have h : Hid (isW ⟨k, v, n⟩ = (k == 2 || k == 3)) := rfl
 generalize isW ⟨k, v, n⟩ = r at h ⊢
 by_cases k4 : k = 2
 ·subst k4
  go_enter Tryz.func77, Tryz.ntmps77
  go_wp2
  go_ret
  exact ⟨by rw [h.out]; rfl, below_1 _ _⟩
 ·have kb : (k == 2) = false := by simpa using k4
  by_cases k5 : k = 3
  ·subst k5
   go_enter Tryz.func77, Tryz.ntmps77
   go_wp2
   go_ret
   exact ⟨by rw [h.out]; rfl, below_1 _ _⟩
  ·have kb5 : (k == 3) = false := by simpa using k5
   go_enter Tryz.func77, Tryz.ntmps77
   go_wp2
   go_ret
   exact ⟨by rw [h.out, kb, kb5]; rfl, below_1 _ _⟩

set_option maxRecDepth 1000000 in
set_option maxHeartbeats 2000000 in
theorem isPlain_calls (vars vol locks : Int) (ta : Option Addr) (tn tc : Nat) (a : ActL) (w : World) : Calls Tryz.prog 71 #[.agg #[.int .i64 vars, .int .i64 vol, .int .i64 locks, .slice ta tn tc], .agg #[.int .i64 a.kind, .int .i64 a.var, .int .i64 a.n]] w fun e w' => e = .returned (.bool (!isL a && decide (vol ≤ a.var))) ∧ Below w.heap.size w w' := by
 obtain ⟨k, v, n⟩ := a
 have hL : Hid (∀ W : World, Calls Tryz.prog 69 #[.agg #[.int .i64 k, .int .i64 v, .int .i64 n]] W fun e w' => e = .returned (.bool (isL ⟨k, v, n⟩)) ∧ Below W.heap.size W w') := fun W => isL_calls ⟨k, v, n⟩ W
 generalize isL ⟨k, v, n⟩ = l at hL ⊢
 dsimp only
 obtain ⟨W0, hW0⟩ : ∃ W0 : World, W0 = (w.alloc (.cells #[.int .i64 vars, .int .i64 vol, .int .i64 locks, .slice ta tn tc] 34)).alloc (.cells #[.int .i64 k, .int .i64 v, .int .i64 n] 60) := ⟨_, rfl⟩
 have e0 : W0.heap[w.heap.size]? = some (.cells #[.int .i64 vars, .int .i64 vol, .int .i64 locks, .slice ta tn tc] 34) := by
  rw [hW0, Below.heap_alloc _ _ _ (by simp)]; exact heap_alloc_new _ _
 have e1 : W0.heap[w.heap.size + 1]? = some (.cells #[.int .i64 k, .int .i64 v, .int .i64 n] 60) := by
  rw [hW0]; have := heap_alloc_new (w.alloc (.cells #[.int .i64 vars, .int .i64 vol, .int .i64 locks, .slice ta tn tc] 34)) (.cells #[.int .i64 k, .int .i64 v, .int .i64 n] 60); simpa using this
 have hsz : w.heap.size + 2 ≤ W0.heap.size := by rw [hW0]; simp
 have hb0 : Hid (Below w.heap.size w W0) := by show Below _ _ _; rw [hW0]; exact below_on (below_1 _ _) (below_1 _ _)
 cases l with
 | true =>
  go_enter Tryz.func71, Tryz.ntmps71
  go_wp2_with (go_at_call 69; refine (hL.out _).mono ?_; rintro e w2 ⟨rfl, hb⟩)
  go_ret
  exact ⟨rfl, by rw [← hW0] at hb; exact below_on hb0.out hb⟩
 | false =>
  go_enter Tryz.func71, Tryz.ntmps71
  go_wp2_with (go_at_call 69; rw [← hW0]; refine (hL.out _).mono ?_; rintro e w2 ⟨rfl, hb⟩; have q0 : w2.cell? ⟨w.heap.size, 1, none⟩ = some (.int .i64 vol) := (hb.cell (p := ⟨w.heap.size, 1, none⟩) (show w.heap.size < _ by omega)).trans (rangeAt_heap e0 1 _ rfl); have q1 : w2.cell? ⟨w.heap.size + 1, 1, none⟩ = some (.int .i64 v) := (hb.cell (p := ⟨w.heap.size + 1, 1, none⟩) (show w.heap.size + 1 < _ by omega)).trans (rangeAt_heap e1 1 _ rfl))
  go_ret
  exact ⟨rfl, below_on hb0.out hb⟩
end Go.Proofs.YtknbchheoloaoaaGreat

/- cmp.Or of four numbers; the order of races that the program sorts by. -/
namespace Go.Proofs.YtknbchheoloaoaaGreat
set_option linter.unusedVariables false
open Go.ChangeShapes Go.WideShapes Go.ChangeAt Go.RowKit

def orL : List Int → Int
 | [] => 0
 | z :: zs => if z = 0 then orL zs else z
set_option maxRecDepth 1000000 in
set_option maxHeartbeats 2000000 in
theorem or_calls (b : Nat) (zs : List Int) (w : World) (hc : w.rangeAt b 0 (intsV zs)) (hn : zs.length ≤ 1000) : Calls Tryz.prog 56 #[.slice (some ⟨b, 0, none⟩) zs.length zs.length] w fun e w' => e = .returned (.int .i64 (orL zs)) ∧ w' = w := by
 have hcH : Hid (w.rangeAt b 0 (intsV zs)) := hc
 have hR0 : Hid (orL zs = orL (zs.drop 0)) := rfl
 generalize orL zs = R at hR0 ⊢
 clear hc
 go_enter Tryz.func56, Tryz.ntmps56
 go_wp2
 go_loopw [8] (fun i wr => ∃ m : Nat, m ≤ zs.length ∧ i = .int .i64 m ∧ wr = w ∧ Hid (R = orL (zs.drop m))) (fun i _ => zs.length - (intOf i).toNat)
 case atStart => exact ⟨0, Nat.zero_le _, rfl, rfl, hR0⟩
 case round =>
  obtain ⟨m, hm, rfl, rfl, hI⟩ := hrel
  clear hR0
  by_cases h1 : m < zs.length
  ·have h1' : (m : Int) < zs.length := by omega
   have q : wr.cell? ⟨b, m, none⟩ = some (.int .i64 zs[m]) := by
    have := hcH.out m (.int .i64 zs[m]) (by simp [intsV, h1])
    simpa using this
   have hI2 : Hid (R = orL (zs[m] :: zs.drop (m + 1))) := by show _ = _; rw [hI.out, List.drop_eq_getElem_cons h1]
   generalize zs[m] = x at *
   clear hI
   by_cases hx : x = 0
   ·subst hx
    have hI3 : Hid (R = orL (zs.drop (m + 1))) := by show _ = _; rw [hI2.out]; rfl
    clear hI2
    go_wp2
    go_roundw
    case rel => exact ⟨m + 1, by omega, by go_num, trivial, hI3⟩
    case measure => simp [intOf]; omega
   ·have hI3 : Hid (R = x) := by show _ = _; rw [hI2.out, orL, if_neg hx]
    have hxb : (x != 0) = true := by simpa using hx
    clear hI2
    go_wp2
    go_ret
    exact ⟨by rw [hI3.out]; rfl, rfl⟩
  ·have h1' : ¬(m : Int) < zs.length := by omega
   have hI3 : Hid (R = 0) := by show _ = _; rw [hI.out, List.drop_eq_nil_of_le (by omega)]; rfl
   clear hI
   go_wp2
   go_ret
   exact ⟨by rw [hI3.out]; rfl, rfl⟩
theorem orL_cmp : ∀ (r q : RaceL), orL [signI r.t q.t, signI r.a q.a, signI r.u q.u, signI r.b q.b] = cmpL r.z q.z := by
 intro r q
 have h0 : ∀ a b : Int, signI a b = 0 ↔ a = b := fun a b => by
  unfold signI; split
  ·constructor
   ·intro h; cases h
   ·intro h; omega
  ·split
   ·constructor
    ·intro h; cases h
    ·intro h; omega
   ·constructor
    ·intro _; omega
    ·intro _; rfl
 have hstep : ∀ (a b : Int) (l m : List Int), cmpL (a :: l) (b :: m) = if signI a b = 0 then cmpL l m else signI a b := fun a b l m => by
  split
  ·rename_i h
   rw [(h0 a b).1 h, cmpL_eq]
  ·rename_i h
   rw [cmpL_ne (fun e => h ((h0 a b).2 e))]
 have hnil : cmpL [] [] = 0 := cmpL_refl []
 simp only [RaceL.z, hstep, hnil, orL]

def ordVal (r0 r1 r2 r3 q0 q1 q2 q3 : Int) (B : Nat) : Nat → Value → Nat → Nat → World → Prop
 | 0, v, _, _, _ => v = .pointer (some ⟨B, 0, none⟩)
 | 1, v, _, _, _ => v = .int .i64 r0
 | 2, v, _, _, _ => v = .pointer (some ⟨B + 1, 0, none⟩)
 | 3, v, _, _, _ => v = .int .i64 q0
 | 4, v, _, _, _ => v = .int .i64 (signI r0 q0)
 | 5, v, _, _, _ => v = .pointer (some ⟨B, 1, none⟩)
 | 6, v, _, _, _ => v = .int .i64 r1
 | 7, v, _, _, _ => v = .pointer (some ⟨B + 1, 1, none⟩)
 | 8, v, _, _, _ => v = .int .i64 q1
 | 9, v, _, _, _ => v = .int .i64 (signI r1 q1)
 | 10, v, _, _, _ => v = .pointer (some ⟨B, 2, none⟩)
 | 11, v, _, _, _ => v = .int .i64 r2
 | 12, v, _, _, _ => v = .pointer (some ⟨B + 1, 2, none⟩)
 | 13, v, _, _, _ => v = .int .i64 q2
 | 14, v, _, _, _ => v = .int .i64 (signI r2 q2)
 | 15, v, _, _, _ => v = .pointer (some ⟨B, 3, none⟩)
 | 16, v, _, _, _ => v = .int .i64 r3
 | 17, v, _, _, _ => v = .pointer (some ⟨B + 1, 3, none⟩)
 | 18, v, _, _, _ => v = .int .i64 q3
 | 19, v, _, _, _ => v = .int .i64 (signI r3 q3)
 | 20, v, lo, hi, w => v = .slice (some ⟨lo, 0, none⟩) 4 4 ∧ w.rangeAt lo 0 (intsV [signI r0 q0, signI r1 q1, signI r2 q2, signI r3 q3]) ∧ lo < hi
 | 21, v, _, _, _ => v = .int .i64 (orL [signI r0 q0, signI r1 q1, signI r2 q2, signI r3 q3])
 | _, v, _, _, _ => v = .int .i64 (orL [signI r0 q0, signI r1 q1, signI r2 q2, signI r3 q3])
theorem ordVal_below (r0 r1 r2 r3 q0 q1 q2 q3 : Int) (B : Nat) : ∀ i v lo hi (w w' : World), Below w.heap.size w w' → hi ≤ w.heap.size → ordVal r0 r1 r2 r3 q0 q1 q2 q3 B i v lo hi w → ordVal r0 r1 r2 r3 q0 q1 q2 q3 B i v lo hi w' := by
 intro i v lo hi w w' hb hh h
 match i, h with
 | 0, h => exact h
 | 1, h => exact h
 | 2, h => exact h
 | 3, h => exact h
 | 4, h => exact h
 | 5, h => exact h
 | 6, h => exact h
 | 7, h => exact h
 | 8, h => exact h
 | 9, h => exact h
 | 10, h => exact h
 | 11, h => exact h
 | 12, h => exact h
 | 13, h => exact h
 | 14, h => exact h
 | 15, h => exact h
 | 16, h => exact h
 | 17, h => exact h
 | 18, h => exact h
 | 19, h => exact h
 | 20, h => exact ⟨h.1, fun j u hj => (hb.cell (p := ⟨lo, 0 + j, none⟩) (show lo < _ by have := h.2.2; omega)).trans (h.2.1 j u hj), h.2.2⟩
 | 21, h => exact h
 | n + 22, h => exact h

set_option maxRecDepth 1000000 in
set_option maxHeartbeats 8000000 in
theorem inOrder1_calls (r q : RaceL) (w : World) : Calls Tryz.prog 55 #[.agg #[.int .i64 r.t, .int .i64 r.a, .int .i64 r.u, .int .i64 r.b], .agg #[.int .i64 q.t, .int .i64 q.a, .int .i64 q.u, .int .i64 q.b]] w fun e w' => e = .returned (.int .i64 (cmpL r.z q.z)) ∧ Below w.heap.size w w' := by
 rw [← orL_cmp]
 obtain ⟨r0, r1, r2, r3⟩ := r
 obtain ⟨q0, q1, q2, q3⟩ := q
 dsimp only
 have hcmp : Hid (∀ (a b : Int) (W : World), Calls Tryz.prog 57 #[.int .i64 a, .int .i64 b] W fun e w' => e = .returned (.int .i64 (signI a b)) ∧ w' = W) := fun a b W => compare_calls a b W
 go_enter Tryz.func55, Tryz.ntmps55
 go_wp2_with fail
 obtain ⟨W0, hW0⟩ : ∃ W0 : World, W0 = (w.alloc (.cells #[.int .i64 r0, .int .i64 r1, .int .i64 r2, .int .i64 r3] 89)).alloc (.cells #[.int .i64 q0, .int .i64 q1, .int .i64 q2, .int .i64 q3] 89) := ⟨_, rfl⟩
 have e0 : W0.heap[w.heap.size]? = some (.cells #[.int .i64 r0, .int .i64 r1, .int .i64 r2, .int .i64 r3] 89) := by
  rw [hW0, Below.heap_alloc _ _ _ (by simp)]; exact heap_alloc_new _ _
 have e1 : W0.heap[w.heap.size + 1]? = some (.cells #[.int .i64 q0, .int .i64 q1, .int .i64 q2, .int .i64 q3] 89) := by
  rw [hW0]; have := heap_alloc_new (w.alloc (.cells #[.int .i64 r0, .int .i64 r1, .int .i64 r2, .int .i64 r3] 89)) (.cells #[.int .i64 q0, .int .i64 q1, .int .i64 q2, .int .i64 q3] 89); simpa using this
 have hsz : w.heap.size + 2 ≤ W0.heap.size := by rw [hW0]; simp
 have hb0 : Hid (Below w.heap.size w W0) := by show Below _ _ _; rw [hW0]; exact below_on (below_1 _ _) (below_1 _ _)
 have hcr : Hid (∀ W, Below W0.heap.size W0 W → W.rangeAt w.heap.size 0 [.int .i64 r0, .int .i64 r1, .int .i64 r2, .int .i64 r3]) := fun W hW j u hj => (hW.cell (p := ⟨w.heap.size, 0 + j, none⟩) (show w.heap.size < _ by omega)).trans (rangeAt_heap e0 j u hj)
 have hcq : Hid (∀ W, Below W0.heap.size W0 W → W.rangeAt (w.heap.size + 1) 0 [.int .i64 q0, .int .i64 q1, .int .i64 q2, .int .i64 q3]) := fun W hW j u hj => (hW.cell (p := ⟨w.heap.size + 1, 0 + j, none⟩) (show w.heap.size + 1 < _ by omega)).trans (rangeAt_heap e1 j u hj)
 rw [← hW0]
 clear e0 e1 hsz hW0
 refine wp_region_own (by kernel_rfl) (fun vs => { tmps := #[.agg #[.int .i64 r0, .int .i64 r1, .int .i64 r2, .int .i64 r3], .agg #[.int .i64 q0, .int .i64 q1, .int .i64 q2, .int .i64 q3], .pointer (some ⟨w.heap.size, 0, none⟩), .pointer (some ⟨w.heap.size + 1, 0, none⟩), vs 22, vs 0, vs 1, vs 2, vs 3, vs 4, vs 5, vs 6, vs 7, vs 8, vs 9, vs 10, vs 11, vs 12, vs 13, vs 14, vs 15, vs 16, vs 17, vs 18, vs 19, vs 20, vs 21], defers := [] }) (ordVal r0 r1 r2 r3 q0 q1 q2 q3 w.heap.size) (fun i => if i = 22 then .int .i64 0 else undef) rfl (ordVal_below r0 r1 r2 r3 q0 q1 q2 q3 w.heap.size) (allAt_all ⟨?_, ?_, ?_, ?_, ?_, ?_, ?_, ?_, ?_, ?_, ?_, ?_, ?_, ?_, ?_, ?_, ?_, ?_, ?_, ?_, ?_, ?_, ?_, trivial⟩) ?_ (regForward_done (by kernel_rfl))
 case refine_1 =>
  intro vs lo hi W hB hv
  go_wp2
  exact ⟨_, rfl, Below.refl _ _, rfl⟩
 case refine_2 =>
  intro vs lo hi W hB hv
  have e0 : vs 0 = .pointer (some ⟨w.heap.size, 0, none⟩) := (hv ⟨0, .data⟩ (by simp) rfl).1
  have c0 : W.cell? ⟨w.heap.size, 0, none⟩ = some (.int .i64 r0) := by simpa using hcr.out W hB 0 _ rfl
  clear hv hcr hcq hcmp
  simp only [e0]
  go_wp2
  exact ⟨.int .i64 r0, by simp [upd, e0], Below.refl _ _, rfl⟩
 case refine_3 =>
  intro vs lo hi W hB hv
  go_wp2
  exact ⟨_, rfl, Below.refl _ _, rfl⟩
 case refine_4 =>
  intro vs lo hi W hB hv
  have e0 : vs 2 = .pointer (some ⟨w.heap.size + 1, 0, none⟩) := (hv ⟨2, .data⟩ (by simp) rfl).1
  have c0 : W.cell? ⟨w.heap.size + 1, 0, none⟩ = some (.int .i64 q0) := by simpa using hcq.out W hB 0 _ rfl
  clear hv hcr hcq hcmp
  simp only [e0]
  go_wp2
  exact ⟨.int .i64 q0, by simp [upd, e0], Below.refl _ _, rfl⟩
 case refine_5 =>
  intro vs lo hi W hB hv
  have e1 : vs 1 = .int .i64 r0 := (hv ⟨1, .data⟩ (by simp) rfl).1
  have e2 : vs 3 = .int .i64 q0 := (hv ⟨3, .data⟩ (by simp) rfl).1
  clear hv hcr hcq
  simp only [e1, e2]
  go_wp2_with (go_at_call 57; refine (hcmp.out _ _ _).mono ?_; rintro e w2 ⟨rfl, rfl⟩)
  exact ⟨.int .i64 (signI r0 q0), by simp [upd, e1, e2], Below.refl _ _, rfl⟩
 case refine_6 =>
  intro vs lo hi W hB hv
  go_wp2
  exact ⟨_, rfl, Below.refl _ _, rfl⟩
 case refine_7 =>
  intro vs lo hi W hB hv
  have e0 : vs 5 = .pointer (some ⟨w.heap.size, 1, none⟩) := (hv ⟨5, .data⟩ (by simp) rfl).1
  have c0 : W.cell? ⟨w.heap.size, 1, none⟩ = some (.int .i64 r1) := by simpa using hcr.out W hB 1 _ rfl
  clear hv hcr hcq hcmp
  simp only [e0]
  go_wp2
  exact ⟨.int .i64 r1, by simp [upd, e0], Below.refl _ _, rfl⟩
 case refine_8 =>
  intro vs lo hi W hB hv
  go_wp2
  exact ⟨_, rfl, Below.refl _ _, rfl⟩
 case refine_9 =>
  intro vs lo hi W hB hv
  have e0 : vs 7 = .pointer (some ⟨w.heap.size + 1, 1, none⟩) := (hv ⟨7, .data⟩ (by simp) rfl).1
  have c0 : W.cell? ⟨w.heap.size + 1, 1, none⟩ = some (.int .i64 q1) := by simpa using hcq.out W hB 1 _ rfl
  clear hv hcr hcq hcmp
  simp only [e0]
  go_wp2
  exact ⟨.int .i64 q1, by simp [upd, e0], Below.refl _ _, rfl⟩
 case refine_10 =>
  intro vs lo hi W hB hv
  have e1 : vs 6 = .int .i64 r1 := (hv ⟨6, .data⟩ (by simp) rfl).1
  have e2 : vs 8 = .int .i64 q1 := (hv ⟨8, .data⟩ (by simp) rfl).1
  clear hv hcr hcq
  simp only [e1, e2]
  go_wp2_with (go_at_call 57; refine (hcmp.out _ _ _).mono ?_; rintro e w2 ⟨rfl, rfl⟩)
  exact ⟨.int .i64 (signI r1 q1), by simp [upd, e1, e2], Below.refl _ _, rfl⟩
 case refine_11 =>
  intro vs lo hi W hB hv
  go_wp2
  exact ⟨_, rfl, Below.refl _ _, rfl⟩
 case refine_12 =>
  intro vs lo hi W hB hv
  have e0 : vs 10 = .pointer (some ⟨w.heap.size, 2, none⟩) := (hv ⟨10, .data⟩ (by simp) rfl).1
  have c0 : W.cell? ⟨w.heap.size, 2, none⟩ = some (.int .i64 r2) := by simpa using hcr.out W hB 2 _ rfl
  clear hv hcr hcq hcmp
  simp only [e0]
  go_wp2
  exact ⟨.int .i64 r2, by simp [upd, e0], Below.refl _ _, rfl⟩
 case refine_13 =>
  intro vs lo hi W hB hv
  go_wp2
  exact ⟨_, rfl, Below.refl _ _, rfl⟩
 case refine_14 =>
  intro vs lo hi W hB hv
  have e0 : vs 12 = .pointer (some ⟨w.heap.size + 1, 2, none⟩) := (hv ⟨12, .data⟩ (by simp) rfl).1
  have c0 : W.cell? ⟨w.heap.size + 1, 2, none⟩ = some (.int .i64 q2) := by simpa using hcq.out W hB 2 _ rfl
  clear hv hcr hcq hcmp
  simp only [e0]
  go_wp2
  exact ⟨.int .i64 q2, by simp [upd, e0], Below.refl _ _, rfl⟩
 case refine_15 =>
  intro vs lo hi W hB hv
  have e1 : vs 11 = .int .i64 r2 := (hv ⟨11, .data⟩ (by simp) rfl).1
  have e2 : vs 13 = .int .i64 q2 := (hv ⟨13, .data⟩ (by simp) rfl).1
  clear hv hcr hcq
  simp only [e1, e2]
  go_wp2_with (go_at_call 57; refine (hcmp.out _ _ _).mono ?_; rintro e w2 ⟨rfl, rfl⟩)
  exact ⟨.int .i64 (signI r2 q2), by simp [upd, e1, e2], Below.refl _ _, rfl⟩
 case refine_16 =>
  intro vs lo hi W hB hv
  go_wp2
  exact ⟨_, rfl, Below.refl _ _, rfl⟩
 case refine_17 =>
  intro vs lo hi W hB hv
  have e0 : vs 15 = .pointer (some ⟨w.heap.size, 3, none⟩) := (hv ⟨15, .data⟩ (by simp) rfl).1
  have c0 : W.cell? ⟨w.heap.size, 3, none⟩ = some (.int .i64 r3) := by simpa using hcr.out W hB 3 _ rfl
  clear hv hcr hcq hcmp
  simp only [e0]
  go_wp2
  exact ⟨.int .i64 r3, by simp [upd, e0], Below.refl _ _, rfl⟩
 case refine_18 =>
  intro vs lo hi W hB hv
  go_wp2
  exact ⟨_, rfl, Below.refl _ _, rfl⟩
 case refine_19 =>
  intro vs lo hi W hB hv
  have e0 : vs 17 = .pointer (some ⟨w.heap.size + 1, 3, none⟩) := (hv ⟨17, .data⟩ (by simp) rfl).1
  have c0 : W.cell? ⟨w.heap.size + 1, 3, none⟩ = some (.int .i64 q3) := by simpa using hcq.out W hB 3 _ rfl
  clear hv hcr hcq hcmp
  simp only [e0]
  go_wp2
  exact ⟨.int .i64 q3, by simp [upd, e0], Below.refl _ _, rfl⟩
 case refine_20 =>
  intro vs lo hi W hB hv
  have e1 : vs 16 = .int .i64 r3 := (hv ⟨16, .data⟩ (by simp) rfl).1
  have e2 : vs 18 = .int .i64 q3 := (hv ⟨18, .data⟩ (by simp) rfl).1
  clear hv hcr hcq
  simp only [e1, e2]
  go_wp2_with (go_at_call 57; refine (hcmp.out _ _ _).mono ?_; rintro e w2 ⟨rfl, rfl⟩)
  exact ⟨.int .i64 (signI r3 q3), by simp [upd, e1, e2], Below.refl _ _, rfl⟩
 case refine_21 =>
  intro vs lo hi W hB hv
  have e0 : vs 4 = .int .i64 (signI r0 q0) := (hv ⟨4, .data⟩ (by simp) rfl).1
  have e1 : vs 9 = .int .i64 (signI r1 q1) := (hv ⟨9, .data⟩ (by simp) rfl).1
  have e2 : vs 14 = .int .i64 (signI r2 q2) := (hv ⟨14, .data⟩ (by simp) rfl).1
  have e3 : vs 19 = .int .i64 (signI r3 q3) := (hv ⟨19, .data⟩ (by simp) rfl).1
  clear hv hcr hcq hcmp
  simp only [e0, e1, e2, e3]
  go_wp2
  exact ⟨.slice (some ⟨W.heap.size, 0, none⟩) 4 4, by simp [upd, e0, e1, e2, e3], below_1 _ _, rfl, rangeAt_heap (heap_alloc_new W _), by simp⟩
 case refine_22 =>
  intro vs lo hi W hB hv
  obtain ⟨e0, h0, _⟩ := (hv ⟨20, .data⟩ (by simp) rfl).1
  have hor : Hid (Calls Tryz.prog 56 #[.slice (some ⟨lo 20, 0, none⟩) 4 4] W fun e w' => e = .returned (.int .i64 (orL [signI r0 q0, signI r1 q1, signI r2 q2, signI r3 q3])) ∧ w' = W) := or_calls (lo 20) [signI r0 q0, signI r1 q1, signI r2 q2, signI r3 q3] W h0 (by simp)
  clear hv hcr hcq hcmp h0
  simp only [e0]
  go_wp2_with (go_at_call 56; refine (show Calls _ _ _ _ _ from hor.out).mono ?_; rintro e w2 ⟨rfl, rfl⟩)
  exact ⟨.int .i64 (orL [signI r0 q0, signI r1 q1, signI r2 q2, signI r3 q3]), by simp [upd, e0], Below.refl _ _, rfl⟩
 case refine_23 =>
  intro vs lo hi W hB hv
  have e0 : Hid (vs 21 = .int .i64 (orL [signI r0 q0, signI r1 q1, signI r2 q2, signI r3 q3])) := (hv ⟨21, .data⟩ (by simp) rfl).1
  clear hv hcr hcq hcmp
  go_wp2
  exact ⟨_, rfl, Below.refl _ _, e0.out⟩
 case refine_24 =>
  intro vs lo hi W hB hval _ _
  have e22 : Hid (vs 22 = .int .i64 (orL [signI r0 q0, signI r1 q1, signI r2 q2, signI r3 q3])) := hval 22 (by simp)
  clear hval
  go_wp2
  go_ret
  exact ⟨by rw [← e22.out]; rfl, below_on hb0.out hB⟩
end Go.Proofs.YtknbchheoloaoaaGreat

/- The program's look at an act of a course. -/
namespace Go.Proofs.YtknbchheoloaoaaGreat
set_option linter.unusedVariables false
open Go.ChangeShapes Go.WideShapes Go.ChangeAt Go.RowKit

set_option maxRecDepth 1000000 in
set_option maxHeartbeats 4000000 in
theorem cact_calls (x : LitL) (d : DoneL) (a : ActL) (g : Nat) (ta : Option Addr) (tc : Nat) (w : World) (lo hi : Nat) (hh : hi ≤ w.heap.size) (hx : ListAt ThrR 1 true lo hi w (.slice ta x.thr.length tc) x.thr) (hg : g < w.heap.size) (hc : w.cell? ⟨g, 3, none⟩ = some (.slice ta x.thr.length tc)) (ha : actAt x d.t d.k = some a) :
  Calls Tryz.prog 80 #[.pointer (some ⟨g, 0, none⟩), .agg #[.int .i64 d.t, .int .i64 d.k]] w fun e w' => e = .returned (.agg #[.int .i64 a.kind, .int .i64 a.var, .int .i64 a.n]) ∧ Below w.heap.size w w' := by
 obtain ⟨t, k⟩ := d
 dsimp only at ha ⊢
 obtain ⟨b1, o1, len, uc, b2, o2, rfl, ht, hk, hkc, hb1, hA⟩ := actAt_of hx hh ha
 obtain ⟨W0, hW0⟩ : ∃ W0 : World, W0 = (w.alloc (.cells #[.int .i64 t, .int .i64 k] 53)).alloc (.cells #[.int .i64 0, .int .i64 0, .int .i64 0] 60) := ⟨_, rfl⟩
 have hbW : Below w.heap.size w W0 := by rw [hW0]; exact below_on (below_1 _ _) (below_1 _ _)
 have e0 := rangeAt_heap (show W0.heap[w.heap.size]? = some (.cells #[.int .i64 t, .int .i64 k] 53) by
  rw [hW0, Below.heap_alloc _ _ _ (by simp)]; exact heap_alloc_new w _)
 have q0 : W0.cell? ⟨w.heap.size, 0, none⟩ = some (.int .i64 t) := e0 0 _ rfl
 have q1 : W0.cell? ⟨w.heap.size, 1, none⟩ = some (.int .i64 k) := e0 1 _ rfl
 have q2 : W0.cell? ⟨g, 3, none⟩ = some (.slice (some ⟨b1, o1, none⟩) x.thr.length tc) := (hbW.cell (p := ⟨g, 3, none⟩) hg).trans hc
 obtain ⟨c1, c2, c3, c4⟩ := hA W0 hbW
 have hbH : Hid (Below w.heap.size w W0) := hbW
 have p1 : (t : Int) < x.thr.length := by omega
 have p2 : (k : Int) < len := by omega
 clear e0 hbW hA hx ha hc
 go_enter Tryz.func80, Tryz.ntmps80
 go_wp2_with fail
 rw [← hW0]
 have hWH : Hid (W0 = (w.alloc (.cells #[.int .i64 t, .int .i64 k] 53)).alloc (.cells #[.int .i64 0, .int .i64 0, .int .i64 0] 60)) := hW0
 clear hW0
 go_still_tail 13, (by kernel_rfl)
 clear q0 q1 q2 c1 c2 c3 c4 p1 p2
 have hth : W0.there (w.heap.size + 1) 0 3 := by
  have h := there_heap (show W0.heap[w.heap.size + 1]? = some (.cells #[.int .i64 0, .int .i64 0, .int .i64 0] 60) by
   rw [hWH.out]
   have := heap_alloc_new (w.alloc (.cells #[.int .i64 t, .int .i64 k] 53)) (.cells #[.int .i64 0, .int .i64 0, .int .i64 0] 60)
   simpa using this)
  exact h
 have hbD : Hid (Below w.heap.size w W0.drew) := Below.drew hbH.out
 generalize hV : ({ heap := W0.heap, tape := W0.tape, drawn := W0.drawn + 1, os := W0.os, output := W0.output } : World) = V
 have hVd : W0.drew = V := hV
 have hthV : V.there (w.heap.size + 1) 0 3 := by rw [← hVd]; exact hth
 rw [hVd] at hbD
 clear hV hVd hth hWH hbH
 refine wpList_store_mid rfl 60 _ _ rfl (w.heap.size + 1) 0 #[.int .i64 a.kind, .int .i64 a.var, .int .i64 a.n] rfl rfl hthV (by kernel_rfl) (all_oneCell_toArray (cs := [.int .i64 a.kind, .int .i64 a.var, .int .i64 a.n]) (by simp [Value.oneCell'])) ?_
 have hfin : Hid ((V.setCells (w.heap.size + 1) 0 [.int .i64 a.kind, .int .i64 a.var, .int .i64 a.n]).rangeAt (w.heap.size + 1) 0 [.int .i64 a.kind, .int .i64 a.var, .int .i64 a.n]) := World.rangeAt_setCells_same V _ _ _ hthV
 have hbF : Hid (Below w.heap.size w (V.setCells (w.heap.size + 1) 0 [.int .i64 a.kind, .int .i64 a.var, .int .i64 a.n])) := below_setCells _ (by omega) _ _ _ hbD.out
 clear hthV hbD
 generalize V.setCells (w.heap.size + 1) 0 [.int .i64 a.kind, .int .i64 a.var, .int .i64 a.n] = W3 at *
 go_wp2
 refine bodyPost_ret (v := .agg #[.int .i64 a.kind, .int .i64 a.var, .int .i64 a.n]) (results_cell_mid rfl _ _ (w.heap.size + 1) [.int .i64 a.kind, .int .i64 a.var, .int .i64 a.n] _ rfl hfin.out Tryz.underlying60 rfl (by kernel_rfl)) rfl ⟨rfl, hbF.out⟩
end Go.Proofs.YtknbchheoloaoaaGreat

/- Moments: the next act of a thread, the first one that is not sent. -/
namespace Go.Proofs.YtknbchheoloaoaaGreat
set_option linter.unusedVariables false
open Go.ChangeShapes Go.WideShapes Go.ChangeAt Go.RowKit

set_option maxRecDepth 1000000 in
set_option maxHeartbeats 2000000 in
theorem next_calls (g t : Nat) (z : Int) (w : World) (ht : t < 3) (hz : 0 ≤ z ∧ z ≤ 4) (hc : w.cell? ⟨g, t, none⟩ = some (.int .i16 z)) : Calls Tryz.prog 51 #[.pointer (some ⟨g, 0, none⟩), .int .i64 t] w fun e w' => e = .returned (.int .i64 z) ∧ w' = w := by
 have h1 : (t : Int) < 22 := by omega
 have hw : Hid (wrap64 z = z) := by show _ = _; unfold wrap64; omega
 clear hz
 go_enter Tryz.func51, Tryz.ntmps51
 go_wp2
 go_ret
 exact ⟨by rw [hw.out]; rfl, rfl⟩
set_option maxRecDepth 1000000 in
set_option maxHeartbeats 2000000 in
theorem unsent_calls (g t : Nat) (z : Int) (w : World) (ht : t < 3) (hz : 0 ≤ z ∧ z ≤ 4) (hc : w.cell? ⟨g, 3 + t, none⟩ = some (.int .i16 z)) : Calls Tryz.prog 86 #[.pointer (some ⟨g, 0, none⟩), .int .i64 t] w fun e w' => e = .returned (.int .i64 z) ∧ w' = w := by
 have h1 : (3 + (t : Int)) < 22 := by omega
 have hw : Hid (wrap64 z = z) := by show _ = _; unfold wrap64; omega
 clear hz
 go_enter Tryz.func86, Tryz.ntmps86
 go_wp2
 go_ret
 exact ⟨by rw [hw.out]; rfl, rfl⟩
set_option maxRecDepth 1000000 in
set_option maxHeartbeats 2000000 in
theorem hasUnsent_calls (g t : Nat) (y z : Int) (w : World) (ht : t < 3) (hy : 0 ≤ y ∧ y ≤ 4) (hz : 0 ≤ z ∧ z ≤ 4) (hc : w.cell? ⟨g, t, none⟩ = some (.int .i16 y)) (hc' : w.cell? ⟨g, 3 + t, none⟩ = some (.int .i16 z)) : Calls Tryz.prog 72 #[.pointer (some ⟨g, 0, none⟩), .int .i64 t] w fun e w' => e = .returned (.bool (decide (z < y))) ∧ w' = w := by
 have c1 : Hid (Calls Tryz.prog 51 #[.pointer (some ⟨g, 0, none⟩), .int .i64 t] w fun e w' => e = .returned (.int .i64 y) ∧ w' = w) := next_calls g t y w ht hy hc
 have c2 : Hid (Calls Tryz.prog 86 #[.pointer (some ⟨g, 0, none⟩), .int .i64 t] w fun e w' => e = .returned (.int .i64 z) ∧ w' = w) := unsent_calls g t z w ht hz hc'
 clear hc hc' hy hz
 go_enter Tryz.func72, Tryz.ntmps72
 go_wp2_with (first
  | (go_at_call 86; refine (show Calls _ _ _ _ _ from c2.out).mono ?_; rintro e w2 ⟨rfl, rfl⟩)
  | (go_at_call 51; refine (show Calls _ _ _ _ _ from c1.out).mono ?_; rintro e w2 ⟨rfl, rfl⟩))
 go_ret
 exact ⟨rfl, rfl⟩
set_option maxRecDepth 1000000 in
set_option maxHeartbeats 2000000 in
theorem value_calls (g t k : Nat) (w : World) (ht : t < 3) (hk : k < 4) : Calls Tryz.prog 75 #[.pointer (some ⟨g, 0, none⟩), .int .i64 t, .int .i64 k] w fun e w' => e = .returned (.pointer (some ⟨g, 6 + t * 4 + k, none⟩)) ∧ w' = w := by
 have h1 : (6 + (t : Int) * 4 + (k : Int)) < 22 := by omega
 go_enter Tryz.func75, Tryz.ntmps75
 go_wp2
 go_ret
 exact ⟨rfl, rfl⟩
end Go.Proofs.YtknbchheoloaoaaGreat

/- The program's isFree. -/
namespace Go.Proofs.YtknbchheoloaoaaGreat
set_option linter.unusedVariables false
open Go.ChangeShapes Go.WideShapes Go.ChangeAt Go.RowKit

def frB (f : Nat → Bool) : Nat → Nat → Bool
 | _, 0 => true
 | k, j + 1 => f k && frB f (k + 1) j
theorem frB_all (f : Nat → Bool) : ∀ j k, frB f k j = (List.range' k j).all f
 | 0, k => rfl
 | j + 1, k => by rw [frB, List.range'_succ, List.all_cons, frB_all f j]
def hasP (x : LitL) (pc : Nat → Nat) (v : Int) (t : Nat) : Bool := hasL ((x.thr.getD t []).take (pc t)) v
set_option maxRecDepth 1000000 in
set_option maxHeartbeats 4000000 in
theorem isFree_calls (x : LitL) (g m0 : Nat) (ta : Option Addr) (tc : Nat) (pc : Nat → Nat) (v : Int) (w : World) (lo hi : Nat) (hh : hi ≤ w.heap.size) (hx : ListAt ThrR 1 true lo hi w (.slice ta x.thr.length tc) x.thr) (hg : g < w.heap.size) (hc : w.cell? ⟨g, 3, none⟩ = some (.slice ta x.thr.length tc)) (hm0 : m0 < w.heap.size) (hn : x.thr.length ≤ 3)
  (hpc : ∀ t (h : t < x.thr.length), w.cell? ⟨m0, t, none⟩ = some (.int .i16 (pc t)) ∧ pc t ≤ 4 ∧ pc t ≤ (x.thr[t]).length ∧ (x.thr[t]).length ≤ 4) :
  Calls Tryz.prog 73 #[.pointer (some ⟨g, 0, none⟩), .pointer (some ⟨m0, 0, none⟩), .int .i64 v] w fun e w' => e = .returned (.bool (frB (fun t => !hasP x pc v t) 0 x.thr.length)) ∧ Below w.heap.size w w' := by
 have htH : Hid (∀ W, Below w.heap.size w W → ListAt ThrR 1 true lo hi W (.slice ta x.thr.length tc) x.thr) := fun W hW => hx.kept ThrR.stable (Nat.le_refl _) (Nat.le_refl _) ((Same.below hW).mono (Nat.zero_le _) hh)
 have hhH : Hid (∀ W, Below w.heap.size w W → hi ≤ W.heap.size) := fun W hW => by have := hW.size; omega
 have hpH : Hid (∀ W, Below w.heap.size w W → ∀ t (h : t < x.thr.length), W.cell? ⟨m0, t, none⟩ = some (.int .i16 (pc t)) ∧ pc t ≤ 4 ∧ pc t ≤ (x.thr[t]).length ∧ (x.thr[t]).length ≤ 4) := fun W hW t h => ⟨(hW.cell (p := ⟨m0, t, none⟩) hm0).trans (hpc t h).1, (hpc t h).2⟩
 obtain ⟨R, hRe⟩ : ∃ R, R = frB (fun t => !hasP x pc v t) 0 x.thr.length := ⟨_, rfl⟩
 rw [← hRe]
 have hR0 : Hid (R = frB (fun t => !hasP x pc v t) 0 (x.thr.length - 0)) := by show _ = _; rw [hRe, Nat.sub_zero]
 clear hRe
 clear hx hpc hh
 go_enter Tryz.func73, Tryz.ntmps73
 go_wp2
 clear hc
 go_loopw [15] (fun i wr => ∃ m : Nat, m ≤ x.thr.length ∧ i = .int .i64 m ∧ Hid (Below w.heap.size w wr) ∧ Hid (R = frB (fun t => !hasP x pc v t) m (x.thr.length - m))) (fun i _ => x.thr.length - (intOf i).toNat)
 case atStart => exact ⟨0, Nat.zero_le _, rfl, Below.refl _ _, hR0⟩
 case round =>
  obtain ⟨m, hm, rfl, hB, hz⟩ := hrel
  clear hR0
  by_cases hlt : m < x.thr.length
  ·have hlt' : (m : Int) < (x.thr.length : Int) := by omega
   obtain ⟨b, off, row, rfl, hbb, hrl, hrr, ⟨u, rfl, hlu⟩⟩ := (htH.out wr hB.out).at m hlt
   obtain ⟨hcm, hp4, hpl, hl4⟩ := hpH.out wr hB.out m hlt
   obtain ⟨ua, uc, rfl⟩ := hlu.form
   have hcap := hlu.cap
   have q1 : wr.cell? ⟨b, off + m, none⟩ = some (.slice ua (x.thr[m]).length uc) := by simpa using hrr 0 _ rfl
   have hnx : Hid (Calls Tryz.prog 51 #[.pointer (some ⟨m0, 0, none⟩), .int .i64 m] wr fun e w' => e = .returned (.int .i64 (pc m : Int)) ∧ w' = wr) := next_calls m0 m (pc m : Int) wr (by omega) (by omega) hcm
   have hHas : Hid (Calls Tryz.prog 70 #[.slice ua (pc m) uc, .int .i64 v] wr fun e w' => e = .returned (.bool (hasP x pc v m)) ∧ Below wr.heap.size wr w') := by
    have hlen : ((x.thr[m]).take (pc m)).length = pc m := by simp [hpl]
    have h := hasL_calls ua uc ((x.thr[m]).take (pc m)) v wr lo hi (hhH.out wr hB.out) (by rw [hlen]; exact hlu.take hpl) (by omega)
    rw [hlen] at h
    have e : x.thr.getD m [] = x.thr[m] := by rw [List.getD_eq_getElem?_getD, List.getElem?_eq_getElem hlt]; rfl
    show Calls _ _ _ _ _
    rw [hasP, e]; exact h
   have hz2 : Hid (R = (!hasP x pc v m && frB (fun t => !hasP x pc v t) (m + 1) (x.thr.length - (m + 1)))) := by
    show _ = _
    rw [hz.out, show x.thr.length - m = (x.thr.length - (m + 1)) + 1 by omega, frB]
   have s1 : (pc m : Int) ≤ uc := by have := hcap; omega
   have s2 : (0 : Int) ≤ pc m := by omega
   have s3 : pc m ≤ uc := by omega
   generalize hasP x pc v m = hv at hHas hz2
   generalize pc m = k at *
   clear hlu hrr hcm hcap hz hp4 hpl
   cases hv with
   | true =>
    have hr : Hid (R = false) := by show _ = _; rw [hz2.out]; rfl
    clear hz2
    go_wp2_with (first
     | (go_at_call 51; refine (show Calls _ _ _ _ _ from hnx.out).mono ?_; rintro e w2 ⟨rfl, rfl⟩)
     | (go_at_call 70; refine (show Calls _ _ _ _ _ from hHas.out).mono ?_; rintro e w2 ⟨rfl, hb2⟩))
    go_ret
    exact ⟨by rw [hr.out]; rfl, below_on hB.out hb2⟩
   | false =>
    have hr : Hid (R = frB (fun t => !hasP x pc v t) (m + 1) (x.thr.length - (m + 1))) := by show _ = _; rw [hz2.out]; rfl
    clear hz2
    go_wp2_with (first
     | (go_at_call 51; refine (show Calls _ _ _ _ _ from hnx.out).mono ?_; rintro e w2 ⟨rfl, rfl⟩)
     | (go_at_call 70; refine (show Calls _ _ _ _ _ from hHas.out).mono ?_; rintro e w2 ⟨rfl, hb2⟩))
    go_roundw
    case rel => exact ⟨m + 1, by omega, by go_num, below_on hB.out hb2, hr⟩
    case measure => simp [intOf]; omega
  ·have hlt' : ¬(m : Int) < (x.thr.length : Int) := by omega
   have hr : Hid (R = true) := by show _ = _; rw [hz.out, show x.thr.length - m = 0 by omega]; rfl
   clear hz
   go_wp2
   go_ret
   exact ⟨by rw [hr.out]; rfl, hB.out⟩
theorem frB_free (x : LitL) (s : S11) (v : Int) : frB (fun t => !hasP x (pcOf s) v t) 0 x.thr.length = freeP x s v := by
 rw [frB_all, freeP, List.range_eq_range']; rfl
theorem plain_conf {x : LitL} {p q : DoneL} {a b : ActL} (ha : actAt x p.t p.k = some a) (hb : actAt x q.t q.k = some b) (ka : a.kind = 1 ∨ a.kind = 2 ∨ a.kind = 3 ∨ a.kind = 4 ∨ a.kind = 5) (kb : b.kind = 1 ∨ b.kind = 2 ∨ b.kind = 3 ∨ b.kind = 4 ∨ b.kind = 5) : ((p.t : Int) != q.t && ((!isL a && decide (x.vol ≤ a.var)) && ((!isL b && decide (x.vol ≤ b.var)) && ((a.var == b.var) && (isW a || isW b))))) = raceC x p q := by
 have e1 : actOf x p = a := by rw [actOf, ha]; rfl
 have e2 : actOf x q = b := by rw [actOf, hb]; rfl
 have h1 : (!isL a) = touchB a := by rcases ka with h | h | h | h | h <;> simp [isL, touchB, isW, h]
 have h2 : (!isL b) = touchB b := by rcases kb with h | h | h | h | h <;> simp [isL, touchB, isW, h]
 have h3 : ((p.t : Int) != q.t) = (p.t != q.t) := by
  rw [Bool.eq_iff_iff]; simp only [bne_iff_ne, ne_eq]; omega
 rw [raceC, e1, e2, h1, h2, h3, conflictB]
 by_cases hv : a.var = b.var
 ·simp only [hv, beq_self_eq_true, Bool.true_and]
  cases p.t != q.t <;> cases touchB a <;> cases touchB b <;> cases decide (x.vol ≤ b.var) <;> cases (isW a || isW b) <;> rfl
 ·have : (a.var == b.var) = false := by simpa using hv
  simp [this]
end Go.Proofs.YtknbchheoloaoaaGreat
