/- spec.l11Writes, l11Conflict. -/
import Derived.Test.YtknbchheoloaoaaGreatSoE
namespace Go.Proofs.YtknbchheoloaoaaGreat
set_option linter.unusedVariables false
open Go.ChangeShapes Go.WideShapes Go.ChangeAt Go.RowKit

def isW (a : ActL) : Bool := a.kind == 2 || a.kind == 3
def touchB (a : ActL) : Bool := a.kind == 1 || isW a
def conflictB (vol : Int) (a b : ActL) : Bool := (touchB a && touchB b) && (a.var == b.var && (decide (vol ≤ a.var) && (isW a || isW b)))

set_option maxRecDepth 1000000 in
theorem writes_calls (a : ActL) (w : World) : Calls Tryz.prog 44 #[.agg #[.int .i64 a.kind, .int .i64 a.var, .int .i64 a.n]] w fun e w' => e = .returned (.bool (isW a)) ∧ Below w.heap.size w w' := by
 obtain ⟨k, v, n⟩ := a
 have h : Hid (isW ⟨k, v, n⟩ = (k == 2 || k == 3)) := rfl
 generalize isW ⟨k, v, n⟩ = r at h ⊢
 by_cases k4 : k = 2
 ·subst k4
  go_enter Tryz.func44, Tryz.ntmps44
  go_wp2
  go_ret
  exact ⟨by rw [h.out]; rfl, below_1 _ _⟩
 ·have kb : (k == 2) = false := by simpa using k4
  by_cases k5 : k = 3
  ·subst k5
   go_enter Tryz.func44, Tryz.ntmps44
   go_wp2
   go_ret
   exact ⟨by rw [h.out]; rfl, below_1 _ _⟩
  ·have kb5 : (k == 3) = false := by simpa using k5
   go_enter Tryz.func44, Tryz.ntmps44
   go_wp2
   go_ret
   exact ⟨by rw [h.out, kb, kb5]; rfl, below_1 _ _⟩

structure Bx3 (W : World) (n : Nat) (vars vol locks : Int) (tv : Value) (a b : ActL) : Prop where
 l0 : W.cell? ⟨n, 0, none⟩ = some (.int .i64 vars)
 l1 : W.cell? ⟨n, 1, none⟩ = some (.int .i64 vol)
 l2 : W.cell? ⟨n, 2, none⟩ = some (.int .i64 locks)
 l3 : W.cell? ⟨n, 3, none⟩ = some tv
 a0 : W.cell? ⟨n + 1, 0, none⟩ = some (.int .i64 a.kind)
 a1 : W.cell? ⟨n + 1, 1, none⟩ = some (.int .i64 a.var)
 a2 : W.cell? ⟨n + 1, 2, none⟩ = some (.int .i64 a.n)
 b0 : W.cell? ⟨n + 2, 0, none⟩ = some (.int .i64 b.kind)
 b1 : W.cell? ⟨n + 2, 1, none⟩ = some (.int .i64 b.var)
 b2 : W.cell? ⟨n + 2, 2, none⟩ = some (.int .i64 b.n)
theorem Bx3.start {w W0 : World} {vars vol locks : Int} {tv : Value} {a b : ActL} {t t' t'' : TypeId} (hW : W0 = ((w.alloc (.cells #[.int .i64 vars, .int .i64 vol, .int .i64 locks, tv] t)).alloc (.cells #[.int .i64 a.kind, .int .i64 a.var, .int .i64 a.n] t')).alloc (.cells #[.int .i64 b.kind, .int .i64 b.var, .int .i64 b.n] t'')) : (∀ W, Below W0.heap.size W0 W → Bx3 W w.heap.size vars vol locks tv a b) ∧ Below w.heap.size w W0 ∧ W0.heap.size = w.heap.size + 3 := by
 have hs : W0.heap.size = w.heap.size + 3 := by rw [hW]; simp
 have e0 : W0.heap[w.heap.size]? = some (.cells #[.int .i64 vars, .int .i64 vol, .int .i64 locks, tv] t) := by
  rw [hW, Below.heap_alloc _ _ _ (by simp; omega), Below.heap_alloc _ _ _ (by simp)]; exact heap_alloc_new w _
 have e1 : W0.heap[w.heap.size + 1]? = some (.cells #[.int .i64 a.kind, .int .i64 a.var, .int .i64 a.n] t') := by
  rw [hW, Below.heap_alloc _ _ _ (by simp)]
  have := heap_alloc_new (w.alloc (.cells #[.int .i64 vars, .int .i64 vol, .int .i64 locks, tv] t)) (.cells #[.int .i64 a.kind, .int .i64 a.var, .int .i64 a.n] t')
  simpa using this
 have e2 : W0.heap[w.heap.size + 2]? = some (.cells #[.int .i64 b.kind, .int .i64 b.var, .int .i64 b.n] t'') := by
  rw [hW]
  have := heap_alloc_new ((w.alloc (.cells #[.int .i64 vars, .int .i64 vol, .int .i64 locks, tv] t)).alloc (.cells #[.int .i64 a.kind, .int .i64 a.var, .int .i64 a.n] t')) (.cells #[.int .i64 b.kind, .int .i64 b.var, .int .i64 b.n] t'')
  simpa using this
 refine ⟨fun W hb => ?_, ?_, hs⟩
 ·have c : ∀ (n : Nat) (o : Nat), n < W0.heap.size → W.cell? ⟨n, o, none⟩ = W0.cell? ⟨n, o, none⟩ := fun n o h => hb.cell (p := ⟨n, o, none⟩) h
  have r0 := rangeAt_heap e0
  have r1 := rangeAt_heap e1
  have r2 := rangeAt_heap e2
  exact ⟨by rw [c _ _ (by omega)]; exact r0 0 _ rfl, by rw [c _ _ (by omega)]; exact r0 1 _ rfl, by rw [c _ _ (by omega)]; exact r0 2 _ rfl, by rw [c _ _ (by omega)]; exact r0 3 _ rfl, by rw [c _ _ (by omega)]; exact r1 0 _ rfl, by rw [c _ _ (by omega)]; exact r1 1 _ rfl, by rw [c _ _ (by omega)]; exact r1 2 _ rfl, by rw [c _ _ (by omega)]; exact r2 0 _ rfl, by rw [c _ _ (by omega)]; exact r2 1 _ rfl, by rw [c _ _ (by omega)]; exact r2 2 _ rfl⟩
 ·rw [hW]; exact below_on (below_on (below_1 _ _) (below_1 _ _)) (below_1 _ _)

structure BxW (w W : World) (vars vol locks : Int) (tv : Value) (a b : ActL) : Prop where
 hb : Below w.heap.size w W
 sz : w.heap.size + 3 ≤ W.heap.size
 bx : Bx3 W w.heap.size vars vol locks tv a b
theorem BxW.on {w W W' : World} {vars vol locks : Int} {tv : Value} {a b : ActL} (h : BxW w W vars vol locks tv a b) (hb : Below W.heap.size W W') : BxW w W' vars vol locks tv a b := by
 obtain ⟨h1, h2, l0, l1, l2, l3, a0, a1, a2, b0, b1, b2⟩ := h
 have := hb.size
 have c : ∀ (n : Nat) (o : Nat), n < W.heap.size → W'.cell? ⟨n, o, none⟩ = W.cell? ⟨n, o, none⟩ := fun n o h => hb.cell (p := ⟨n, o, none⟩) h
 exact ⟨below_on h1 hb, by omega, ⟨by rw [c _ _ (by omega)]; exact l0, by rw [c _ _ (by omega)]; exact l1, by rw [c _ _ (by omega)]; exact l2, by rw [c _ _ (by omega)]; exact l3, by rw [c _ _ (by omega)]; exact a0, by rw [c _ _ (by omega)]; exact a1, by rw [c _ _ (by omega)]; exact a2, by rw [c _ _ (by omega)]; exact b0, by rw [c _ _ (by omega)]; exact b1, by rw [c _ _ (by omega)]; exact b2⟩⟩

set_option maxRecDepth 1000000 in
set_option maxHeartbeats 8000000 in
theorem conflict_calls (vars vol locks : Int) (ta : Option Addr) (tn tc : Nat) (a b : ActL) (w : World) :
  Calls Tryz.prog 22 #[.agg #[.int .i64 vars, .int .i64 vol, .int .i64 locks, .slice ta tn tc], .agg #[.int .i64 a.kind, .int .i64 a.var, .int .i64 a.n], .agg #[.int .i64 b.kind, .int .i64 b.var, .int .i64 b.n]] w fun e w' => e = .returned (.bool (conflictB vol a b)) ∧ Below w.heap.size w w' := by
 obtain ⟨k, v, n⟩ := a
 obtain ⟨k', v', n'⟩ := b
 obtain ⟨W0, hW0⟩ : ∃ W0 : World, W0 = ((w.alloc (.cells #[.int .i64 vars, .int .i64 vol, .int .i64 locks, .slice ta tn tc] 34)).alloc (.cells #[.int .i64 k, .int .i64 v, .int .i64 n] 60)).alloc (.cells #[.int .i64 k', .int .i64 v', .int .i64 n'] 60) := ⟨_, rfl⟩
 obtain ⟨hc, hb0, hsz⟩ := Bx3.start (a := ⟨k, v, n⟩) (b := ⟨k', v', n'⟩) hW0
 have hk : Hid (BxW w W0 vars vol locks (.slice ta tn tc) ⟨k, v, n⟩ ⟨k', v', n'⟩) := ⟨hb0, by omega, hc W0 (Below.refl _ _)⟩
 obtain ⟨l0, l1, l2, l3, a0, a1, a2, b0, b1, b2⟩ := hk.out.bx
 dsimp only at a0 a1 a2 b0 b1 b2
 clear hc hb0 hsz l0 l2 l3
 have hR : Hid (conflictB vol ⟨k, v, n⟩ ⟨k', v', n'⟩ = (((k == 1 || isW ⟨k, v, n⟩) && (k' == 1 || isW ⟨k', v', n'⟩)) && (v == v' && (decide (vol ≤ v) && (isW ⟨k, v, n⟩ || isW ⟨k', v', n'⟩))))) := rfl
 generalize conflictB vol ⟨k, v, n⟩ ⟨k', v', n'⟩ = R at hR ⊢
 have wr : Hid (∀ (k v n : Int) W, Calls Tryz.prog 44 #[.agg #[.int .i64 k, .int .i64 v, .int .i64 n]] W fun e w' => e = .returned (.bool (isW ⟨k, v, n⟩)) ∧ Below W.heap.size W w') := fun k v n W => writes_calls ⟨k, v, n⟩ W
 rcases (show k = 1 ∨ (k ≠ 1 ∧ isW ⟨k, v, n⟩ = true) ∨ (k ≠ 1 ∧ isW ⟨k, v, n⟩ = false) by by_cases h : k = 1 <;> cases isW ⟨k, v, n⟩ <;> simp [h]) with rfl | ⟨h1, h2⟩ | ⟨h1, h2⟩
 ·have hw1 : isW ⟨1, v, n⟩ = false := rfl
  rcases (show k' = 1 ∨ (k' ≠ 1 ∧ isW ⟨k', v', n'⟩ = true) ∨ (k' ≠ 1 ∧ isW ⟨k', v', n'⟩ = false) by by_cases h : k' = 1 <;> cases isW ⟨k', v', n'⟩ <;> simp [h]) with rfl | ⟨g1, g2⟩ | ⟨g1, g2⟩
  ·have hw2 : isW ⟨1, v', n'⟩ = false := rfl
   by_cases hv : v = v'
   ·subst hv
    by_cases hge : vol ≤ v
    ·have hr : Hid (R = false) := by show _ = _; rw [hR.out]; simp [hw1, hw2, hge]
     clear hR
     go_enter Tryz.func22, Tryz.ntmps22
     go_wp2_with fail
     try rw [← hW0]
     clear hW0
     go_wp2_with (go_at_call 44; refine (wr.out _ _ _ _).mono ?_; rintro e w2 ⟨rfl, hb⟩; have hk : Hid (BxW w w2 vars vol locks (.slice ta tn tc) ⟨1, v, n⟩ ⟨1, v, n'⟩) := hk.out.on hb; obtain ⟨l0, l1, l2, l3, a0, a1, a2, b0, b1, b2⟩ := hk.out.bx; clear l0 l2 l3)
     go_ret
     exact ⟨by rw [hr.out]; rfl, hk.out.hb⟩
    ·have hr : Hid (R = false) := by show _ = _; rw [hR.out]; simp [hw1, hw2, hge]
     clear hR
     go_enter Tryz.func22, Tryz.ntmps22
     go_wp2_with fail
     try rw [← hW0]
     clear hW0
     go_wp2_with (go_at_call 44; refine (wr.out _ _ _ _).mono ?_; rintro e w2 ⟨rfl, hb⟩; have hk : Hid (BxW w w2 vars vol locks (.slice ta tn tc) ⟨1, v, n⟩ ⟨1, v, n'⟩) := hk.out.on hb; obtain ⟨l0, l1, l2, l3, a0, a1, a2, b0, b1, b2⟩ := hk.out.bx; clear l0 l2 l3)
     go_ret
     exact ⟨by rw [hr.out]; rfl, hk.out.hb⟩
   ·have hvb : (v == v') = false := by simpa using hv
    have hr : Hid (R = false) := by show _ = _; rw [hR.out]; simp [hw1, hw2, hvb]
    clear hR
    go_enter Tryz.func22, Tryz.ntmps22
    go_wp2_with fail
    try rw [← hW0]
    clear hW0
    go_wp2_with (go_at_call 44; refine (wr.out _ _ _ _).mono ?_; rintro e w2 ⟨rfl, hb⟩; have hk : Hid (BxW w w2 vars vol locks (.slice ta tn tc) ⟨1, v, n⟩ ⟨1, v', n'⟩) := hk.out.on hb; obtain ⟨l0, l1, l2, l3, a0, a1, a2, b0, b1, b2⟩ := hk.out.bx; clear l0 l2 l3)
    go_ret
    exact ⟨by rw [hr.out]; rfl, hk.out.hb⟩
  ·have hk2 : (k' == 1) = false := by simpa using g1
   by_cases hv : v = v'
   ·subst hv
    by_cases hge : vol ≤ v
    ·have hr : Hid (R = true) := by show _ = _; rw [hR.out]; simp [hw1, hk2, g2, hge]
     clear hR
     go_enter Tryz.func22, Tryz.ntmps22
     go_wp2_with fail
     try rw [← hW0]
     clear hW0
     go_wp2_with (go_at_call 44; refine (wr.out _ _ _ _).mono ?_; rintro e w2 ⟨rfl, hb⟩; have hk : Hid (BxW w w2 vars vol locks (.slice ta tn tc) ⟨1, v, n⟩ ⟨k', v, n'⟩) := hk.out.on hb; obtain ⟨l0, l1, l2, l3, a0, a1, a2, b0, b1, b2⟩ := hk.out.bx; clear l0 l2 l3)
     go_ret
     exact ⟨by rw [hr.out]; rfl, hk.out.hb⟩
    ·have hr : Hid (R = false) := by show _ = _; rw [hR.out]; simp [hw1, hk2, g2, hge]
     clear hR
     go_enter Tryz.func22, Tryz.ntmps22
     go_wp2_with fail
     try rw [← hW0]
     clear hW0
     go_wp2_with (go_at_call 44; refine (wr.out _ _ _ _).mono ?_; rintro e w2 ⟨rfl, hb⟩; have hk : Hid (BxW w w2 vars vol locks (.slice ta tn tc) ⟨1, v, n⟩ ⟨k', v, n'⟩) := hk.out.on hb; obtain ⟨l0, l1, l2, l3, a0, a1, a2, b0, b1, b2⟩ := hk.out.bx; clear l0 l2 l3)
     go_ret
     exact ⟨by rw [hr.out]; rfl, hk.out.hb⟩
   ·have hvb : (v == v') = false := by simpa using hv
    have hr : Hid (R = false) := by show _ = _; rw [hR.out]; simp [hw1, hk2, g2, hvb]
    clear hR
    go_enter Tryz.func22, Tryz.ntmps22
    go_wp2_with fail
    try rw [← hW0]
    clear hW0
    go_wp2_with (go_at_call 44; refine (wr.out _ _ _ _).mono ?_; rintro e w2 ⟨rfl, hb⟩; have hk : Hid (BxW w w2 vars vol locks (.slice ta tn tc) ⟨1, v, n⟩ ⟨k', v', n'⟩) := hk.out.on hb; obtain ⟨l0, l1, l2, l3, a0, a1, a2, b0, b1, b2⟩ := hk.out.bx; clear l0 l2 l3)
    go_ret
    exact ⟨by rw [hr.out]; rfl, hk.out.hb⟩
  ·have hk2 : (k' == 1) = false := by simpa using g1
   have hr : Hid (R = false) := by show _ = _; rw [hR.out]; simp [hw1, hk2, g2]
   clear hR
   go_enter Tryz.func22, Tryz.ntmps22
   go_wp2_with fail
   try rw [← hW0]
   clear hW0
   go_wp2_with (go_at_call 44; refine (wr.out _ _ _ _).mono ?_; rintro e w2 ⟨rfl, hb⟩; have hk : Hid (BxW w w2 vars vol locks (.slice ta tn tc) ⟨1, v, n⟩ ⟨k', v', n'⟩) := hk.out.on hb; obtain ⟨l0, l1, l2, l3, a0, a1, a2, b0, b1, b2⟩ := hk.out.bx; clear l0 l2 l3)
   go_ret
   exact ⟨by rw [hr.out]; rfl, hk.out.hb⟩
 ·have hk1 : (k == 1) = false := by simpa using h1
  rcases (show k' = 1 ∨ (k' ≠ 1 ∧ isW ⟨k', v', n'⟩ = true) ∨ (k' ≠ 1 ∧ isW ⟨k', v', n'⟩ = false) by by_cases h : k' = 1 <;> cases isW ⟨k', v', n'⟩ <;> simp [h]) with rfl | ⟨g1, g2⟩ | ⟨g1, g2⟩
  ·have hw2 : isW ⟨1, v', n'⟩ = false := rfl
   by_cases hv : v = v'
   ·subst hv
    by_cases hge : vol ≤ v
    ·have hr : Hid (R = true) := by show _ = _; rw [hR.out]; simp [hk1, h2, hw2, hge]
     clear hR
     go_enter Tryz.func22, Tryz.ntmps22
     go_wp2_with fail
     try rw [← hW0]
     clear hW0
     go_wp2_with (go_at_call 44; refine (wr.out _ _ _ _).mono ?_; rintro e w2 ⟨rfl, hb⟩; have hk : Hid (BxW w w2 vars vol locks (.slice ta tn tc) ⟨k, v, n⟩ ⟨1, v, n'⟩) := hk.out.on hb; obtain ⟨l0, l1, l2, l3, a0, a1, a2, b0, b1, b2⟩ := hk.out.bx; clear l0 l2 l3)
     go_ret
     exact ⟨by rw [hr.out]; rfl, hk.out.hb⟩
    ·have hr : Hid (R = false) := by show _ = _; rw [hR.out]; simp [hk1, h2, hw2, hge]
     clear hR
     go_enter Tryz.func22, Tryz.ntmps22
     go_wp2_with fail
     try rw [← hW0]
     clear hW0
     go_wp2_with (go_at_call 44; refine (wr.out _ _ _ _).mono ?_; rintro e w2 ⟨rfl, hb⟩; have hk : Hid (BxW w w2 vars vol locks (.slice ta tn tc) ⟨k, v, n⟩ ⟨1, v, n'⟩) := hk.out.on hb; obtain ⟨l0, l1, l2, l3, a0, a1, a2, b0, b1, b2⟩ := hk.out.bx; clear l0 l2 l3)
     go_ret
     exact ⟨by rw [hr.out]; rfl, hk.out.hb⟩
   ·have hvb : (v == v') = false := by simpa using hv
    have hr : Hid (R = false) := by show _ = _; rw [hR.out]; simp [hk1, h2, hw2, hvb]
    clear hR
    go_enter Tryz.func22, Tryz.ntmps22
    go_wp2_with fail
    try rw [← hW0]
    clear hW0
    go_wp2_with (go_at_call 44; refine (wr.out _ _ _ _).mono ?_; rintro e w2 ⟨rfl, hb⟩; have hk : Hid (BxW w w2 vars vol locks (.slice ta tn tc) ⟨k, v, n⟩ ⟨1, v', n'⟩) := hk.out.on hb; obtain ⟨l0, l1, l2, l3, a0, a1, a2, b0, b1, b2⟩ := hk.out.bx; clear l0 l2 l3)
    go_ret
    exact ⟨by rw [hr.out]; rfl, hk.out.hb⟩
  ·have hk2 : (k' == 1) = false := by simpa using g1
   by_cases hv : v = v'
   ·subst hv
    by_cases hge : vol ≤ v
    ·have hr : Hid (R = true) := by show _ = _; rw [hR.out]; simp [hk1, h2, hk2, g2, hge]
     clear hR
     go_enter Tryz.func22, Tryz.ntmps22
     go_wp2_with fail
     try rw [← hW0]
     clear hW0
     go_wp2_with (go_at_call 44; refine (wr.out _ _ _ _).mono ?_; rintro e w2 ⟨rfl, hb⟩; have hk : Hid (BxW w w2 vars vol locks (.slice ta tn tc) ⟨k, v, n⟩ ⟨k', v, n'⟩) := hk.out.on hb; obtain ⟨l0, l1, l2, l3, a0, a1, a2, b0, b1, b2⟩ := hk.out.bx; clear l0 l2 l3)
     go_ret
     exact ⟨by rw [hr.out]; rfl, hk.out.hb⟩
    ·have hr : Hid (R = false) := by show _ = _; rw [hR.out]; simp [hk1, h2, hk2, g2, hge]
     clear hR
     go_enter Tryz.func22, Tryz.ntmps22
     go_wp2_with fail
     try rw [← hW0]
     clear hW0
     go_wp2_with (go_at_call 44; refine (wr.out _ _ _ _).mono ?_; rintro e w2 ⟨rfl, hb⟩; have hk : Hid (BxW w w2 vars vol locks (.slice ta tn tc) ⟨k, v, n⟩ ⟨k', v, n'⟩) := hk.out.on hb; obtain ⟨l0, l1, l2, l3, a0, a1, a2, b0, b1, b2⟩ := hk.out.bx; clear l0 l2 l3)
     go_ret
     exact ⟨by rw [hr.out]; rfl, hk.out.hb⟩
   ·have hvb : (v == v') = false := by simpa using hv
    have hr : Hid (R = false) := by show _ = _; rw [hR.out]; simp [hk1, h2, hk2, g2, hvb]
    clear hR
    go_enter Tryz.func22, Tryz.ntmps22
    go_wp2_with fail
    try rw [← hW0]
    clear hW0
    go_wp2_with (go_at_call 44; refine (wr.out _ _ _ _).mono ?_; rintro e w2 ⟨rfl, hb⟩; have hk : Hid (BxW w w2 vars vol locks (.slice ta tn tc) ⟨k, v, n⟩ ⟨k', v', n'⟩) := hk.out.on hb; obtain ⟨l0, l1, l2, l3, a0, a1, a2, b0, b1, b2⟩ := hk.out.bx; clear l0 l2 l3)
    go_ret
    exact ⟨by rw [hr.out]; rfl, hk.out.hb⟩
  ·have hk2 : (k' == 1) = false := by simpa using g1
   have hr : Hid (R = false) := by show _ = _; rw [hR.out]; simp [hk1, h2, hk2, g2]
   clear hR
   go_enter Tryz.func22, Tryz.ntmps22
   go_wp2_with fail
   try rw [← hW0]
   clear hW0
   go_wp2_with (go_at_call 44; refine (wr.out _ _ _ _).mono ?_; rintro e w2 ⟨rfl, hb⟩; have hk : Hid (BxW w w2 vars vol locks (.slice ta tn tc) ⟨k, v, n⟩ ⟨k', v', n'⟩) := hk.out.on hb; obtain ⟨l0, l1, l2, l3, a0, a1, a2, b0, b1, b2⟩ := hk.out.bx; clear l0 l2 l3)
   go_ret
   exact ⟨by rw [hr.out]; rfl, hk.out.hb⟩
 ·have hk1 : (k == 1) = false := by simpa using h1
  have hr : Hid (R = false) := by show _ = _; rw [hR.out]; simp [hk1, h2]
  clear hR
  go_enter Tryz.func22, Tryz.ntmps22
  go_wp2_with fail
  try rw [← hW0]
  clear hW0
  go_wp2_with (go_at_call 44; refine (wr.out _ _ _ _).mono ?_; rintro e w2 ⟨rfl, hb⟩; have hk : Hid (BxW w w2 vars vol locks (.slice ta tn tc) ⟨k, v, n⟩ ⟨k', v', n'⟩) := hk.out.on hb; obtain ⟨l0, l1, l2, l3, a0, a1, a2, b0, b1, b2⟩ := hk.out.bx; clear l0 l2 l3)
  go_ret
  exact ⟨by rw [hr.out]; rfl, hk.out.hb⟩
end Go.Proofs.YtknbchheoloaoaaGreat
