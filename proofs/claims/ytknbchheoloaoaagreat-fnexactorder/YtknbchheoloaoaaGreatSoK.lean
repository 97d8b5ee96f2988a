/- spec.l11Edge. -/
import Derived.Test.YtknbchheoloaoaaGreatSoJ
namespace Go.Proofs.YtknbchheoloaoaaGreat
set_option linter.unusedVariables false
open Go.ChangeShapes Go.WideShapes Go.ChangeAt Go.RowKit

structure DoneL where
 t : Nat
 k : Nat
def edgeB (vol : Int) (p q : DoneL) (a b : ActL) : Bool := p.t == q.t || (if a.kind = 5 then b.kind == 4 && a.var == b.var else (isW a && b.kind == 1) && (a.var == b.var && decide (a.var < vol)))

structure ActAt (W : World) (b1 o1 t len uc b2 o2 k : Nat) (a : ActL) : Prop where
 c : W.cell? ⟨b1, o1 + t, none⟩ = some (.slice (some ⟨b2, o2, none⟩) len uc)
 a0 : W.cell? ⟨b2, o2 + k * 3, none⟩ = some (.int .i64 a.kind)
 a1 : W.cell? ⟨b2, o2 + k * 3 + 1, none⟩ = some (.int .i64 a.var)
 a2 : W.cell? ⟨b2, o2 + k * 3 + 2, none⟩ = some (.int .i64 a.n)
theorem actAt_of {x : LitL} {ta : Option Addr} {tc lo hi : Nat} {w : World} (h : ListAt ThrR 1 true lo hi w (.slice ta x.thr.length tc) x.thr) (hh : hi ≤ w.heap.size) {t k : Nat} {a : ActL} (ha : actAt x t k = some a) :
  ∃ b1 o1 len uc b2 o2, ta = some ⟨b1, o1, none⟩ ∧ t < x.thr.length ∧ k < len ∧ len ≤ uc ∧ b1 < w.heap.size ∧ ∀ W, Below w.heap.size w W → ActAt W b1 o1 t len uc b2 o2 k a := by
 unfold actAt at ha
 rcases Nat.lt_or_ge t x.thr.length with h1 | h1
 ·rw [List.getElem?_eq_getElem h1] at ha
  rcases Nat.lt_or_ge k x.thr[t].length with h2 | h2
  ·have ha2 : a = x.thr[t][k] := by simpa [h2] using ha.symm
   obtain ⟨b1, o1, ua, uc, ⟨rfl, hc1⟩, hacts, hb1⟩ := thrC h h1
   have hcap := hacts.cap
   obtain ⟨b2, o2, row, rfl, hbb2, hrl, hrr, hrx⟩ := hacts.at k h2
   have hrx : row = [.int .i64 x.thr[t][k].kind, .int .i64 x.thr[t][k].var, .int .i64 x.thr[t][k].n] := hrx
   rw [← ha2] at hrx
   subst hrx
   refine ⟨b1, o1, x.thr[t].length, uc, b2, o2, rfl, h1, h2, hcap, by omega, fun W hb => ⟨?_, ?_, ?_, ?_⟩⟩
   ·rw [hb.cell (p := ⟨b1, o1 + t, none⟩) (by show b1 < _; omega)]; exact hc1
   ·rw [hb.cell (p := ⟨b2, o2 + k * 3, none⟩) (by show b2 < _; omega)]; exact hrr 0 _ rfl
   ·rw [hb.cell (p := ⟨b2, o2 + k * 3 + 1, none⟩) (by show b2 < _; omega)]; exact hrr 1 _ rfl
   ·rw [hb.cell (p := ⟨b2, o2 + k * 3 + 2, none⟩) (by show b2 < _; omega)]; exact hrr 2 _ rfl
  ·simp [List.getElem?_eq_none h2] at ha
 ·simp [List.getElem?_eq_none h1] at ha

set_option maxRecDepth 1000000 in
set_option maxHeartbeats 8000000 in
theorem edge_calls (x : LitL) (p q : DoneL) (a b : ActL) (ta : Option Addr) (tc : Nat) (w : World) (lo hi : Nat) (hh : hi ≤ w.heap.size) (hx : ListAt ThrR 1 true lo hi w (.slice ta x.thr.length tc) x.thr) (hn : x.thr.length ≤ 3) (ha : actAt x p.t p.k = some a) (hb : actAt x q.t q.k = some b) :
  Calls Tryz.prog 21 #[.agg #[.int .i64 x.vars, .int .i64 x.vol, .int .i64 x.locks, .slice ta x.thr.length tc], .agg #[.int .i64 p.t, .int .i64 p.k], .agg #[.int .i64 q.t, .int .i64 q.k]] w fun e w' => e = .returned (.bool (edgeB x.vol p q a b)) ∧ Below w.heap.size w w' := by
 obtain ⟨pt, pk⟩ := p
 obtain ⟨qt, qk⟩ := q
 dsimp only at ha hb ⊢
 obtain ⟨b1, o1, la, ua, b2, o2, rfl, ht, hk, hka, hb1, hA⟩ := actAt_of hx hh ha
 obtain ⟨b1', o1', lb, ub, b3, o3, e1, ht', hk', hkb, _, hB⟩ := actAt_of hx hh hb
 obtain ⟨rfl, rfl⟩ : b1 = b1' ∧ o1 = o1' := by injection e1 with e1; injection e1 with e2 e3; exact ⟨e2, e3⟩
 obtain ⟨W0, hW0⟩ : ∃ W0 : World, W0 = ((w.alloc (.cells #[.int .i64 x.vars, .int .i64 x.vol, .int .i64 x.locks, .slice (some ⟨b1, o1, none⟩) x.thr.length tc] 34)).alloc (.cells #[.int .i64 pt, .int .i64 pk] 53)).alloc (.cells #[.int .i64 qt, .int .i64 qk] 53) := ⟨_, rfl⟩
 have hs : W0.heap.size = w.heap.size + 3 := by rw [hW0]; simp
 have hbW : Below w.heap.size w W0 := by rw [hW0]; exact below_on (below_on (below_1 _ _) (below_1 _ _)) (below_1 _ _)
 have e0 := rangeAt_heap (show W0.heap[w.heap.size]? = some (.cells #[.int .i64 x.vars, .int .i64 x.vol, .int .i64 x.locks, .slice (some ⟨b1, o1, none⟩) x.thr.length tc] 34) by
  rw [hW0, Below.heap_alloc _ _ _ (by simp; omega), Below.heap_alloc _ _ _ (by simp)]; exact heap_alloc_new w _)
 have e1 := rangeAt_heap (show W0.heap[w.heap.size + 1]? = some (.cells #[.int .i64 pt, .int .i64 pk] 53) by
  rw [hW0, Below.heap_alloc _ _ _ (by simp)]
  have := heap_alloc_new (w.alloc (.cells #[.int .i64 x.vars, .int .i64 x.vol, .int .i64 x.locks, .slice (some ⟨b1, o1, none⟩) x.thr.length tc] 34)) (.cells #[.int .i64 pt, .int .i64 pk] 53)
  simpa using this)
 have e2 := rangeAt_heap (show W0.heap[w.heap.size + 2]? = some (.cells #[.int .i64 qt, .int .i64 qk] 53) by
  rw [hW0]
  have := heap_alloc_new ((w.alloc (.cells #[.int .i64 x.vars, .int .i64 x.vol, .int .i64 x.locks, .slice (some ⟨b1, o1, none⟩) x.thr.length tc] 34)).alloc (.cells #[.int .i64 pt, .int .i64 pk] 53)) (.cells #[.int .i64 qt, .int .i64 qk] 53)
  simpa using this)
 have hmk : Hid (∀ W, Below W0.heap.size W0 W → (Hid (Below W0.heap.size W0 W) ∧ W.cell? ⟨w.heap.size, 1, none⟩ = some (.int .i64 x.vol) ∧ W.cell? ⟨w.heap.size, 3, none⟩ = some (.slice (some ⟨b1, o1, none⟩) x.thr.length tc) ∧ W.cell? ⟨w.heap.size + 1, 0, none⟩ = some (.int .i64 pt) ∧ W.cell? ⟨w.heap.size + 1, 1, none⟩ = some (.int .i64 pk) ∧ W.cell? ⟨w.heap.size + 2, 0, none⟩ = some (.int .i64 qt) ∧ W.cell? ⟨w.heap.size + 2, 1, none⟩ = some (.int .i64 qk) ∧ W.cell? ⟨b1, o1 + pt, none⟩ = some (.slice (some ⟨b2, o2, none⟩) la ua) ∧ W.cell? ⟨b2, o2 + pk * 3, none⟩ = some (.int .i64 a.kind) ∧ W.cell? ⟨b2, o2 + pk * 3 + 1, none⟩ = some (.int .i64 a.var) ∧ W.cell? ⟨b2, o2 + pk * 3 + 2, none⟩ = some (.int .i64 a.n) ∧ W.cell? ⟨b1, o1 + qt, none⟩ = some (.slice (some ⟨b3, o3, none⟩) lb ub) ∧ W.cell? ⟨b3, o3 + qk * 3, none⟩ = some (.int .i64 b.kind) ∧ W.cell? ⟨b3, o3 + qk * 3 + 1, none⟩ = some (.int .i64 b.var) ∧ W.cell? ⟨b3, o3 + qk * 3 + 2, none⟩ = some (.int .i64 b.n))) := fun W hW => by
  have hbw := below_on hbW hW
  obtain ⟨c1, c2, c3, c4⟩ := hA W hbw
  obtain ⟨d1, d2, d3, d4⟩ := hB W hbw
  have c : ∀ (n : Nat) (o : Nat), n < W0.heap.size → W.cell? ⟨n, o, none⟩ = W0.cell? ⟨n, o, none⟩ := fun n o h => hW.cell (p := ⟨n, o, none⟩) h
  exact ⟨hW, by rw [c _ _ (by omega)]; exact e0 1 _ rfl, by rw [c _ _ (by omega)]; exact e0 3 _ rfl, by rw [c _ _ (by omega)]; exact e1 0 _ rfl, by rw [c _ _ (by omega)]; exact e1 1 _ rfl, by rw [c _ _ (by omega)]; exact e2 0 _ rfl, by rw [c _ _ (by omega)]; exact e2 1 _ rfl, c1, c2, c3, c4, d1, d2, d3, d4⟩
 have hS0 := hmk.out W0 (Below.refl _ _)
 have hbWH : Hid (Below w.heap.size w W0) := hbW
 have p1 : (pt : Int) < x.thr.length := by omega
 have p2 : (qt : Int) < x.thr.length := by omega
 have p3 : (pk : Int) < la := by omega
 have p4 : (qk : Int) < lb := by omega
 have hsH : Hid (W0.heap.size = w.heap.size + 3) := hs
 clear e0 e1 e2 hbW hA hB hx ha hb hs
 go_enter Tryz.func21, Tryz.ntmps21
 go_wp2_with fail
 rw [← hW0]
 clear hW0
 have wr : Hid (∀ (k v n : Int) W, Calls Tryz.prog 44 #[.agg #[.int .i64 k, .int .i64 v, .int .i64 n]] W fun e w' => e = .returned (.bool (isW ⟨k, v, n⟩)) ∧ Below W.heap.size W w') := fun k v n W => writes_calls ⟨k, v, n⟩ W
 go_region_held3 (fun W => Hid (Below W0.heap.size W0 W) ∧ W.cell? ⟨w.heap.size, 1, none⟩ = some (.int .i64 x.vol) ∧ W.cell? ⟨w.heap.size, 3, none⟩ = some (.slice (some ⟨b1, o1, none⟩) x.thr.length tc) ∧ W.cell? ⟨w.heap.size + 1, 0, none⟩ = some (.int .i64 pt) ∧ W.cell? ⟨w.heap.size + 1, 1, none⟩ = some (.int .i64 pk) ∧ W.cell? ⟨w.heap.size + 2, 0, none⟩ = some (.int .i64 qt) ∧ W.cell? ⟨w.heap.size + 2, 1, none⟩ = some (.int .i64 qk) ∧ W.cell? ⟨b1, o1 + pt, none⟩ = some (.slice (some ⟨b2, o2, none⟩) la ua) ∧ W.cell? ⟨b2, o2 + pk * 3, none⟩ = some (.int .i64 a.kind) ∧ W.cell? ⟨b2, o2 + pk * 3 + 1, none⟩ = some (.int .i64 a.var) ∧ W.cell? ⟨b2, o2 + pk * 3 + 2, none⟩ = some (.int .i64 a.n) ∧ W.cell? ⟨b1, o1 + qt, none⟩ = some (.slice (some ⟨b3, o3, none⟩) lb ub) ∧ W.cell? ⟨b3, o3 + qk * 3, none⟩ = some (.int .i64 b.kind) ∧ W.cell? ⟨b3, o3 + qk * 3 + 1, none⟩ = some (.int .i64 b.var) ∧ W.cell? ⟨b3, o3 + qk * 3 + 2, none⟩ = some (.int .i64 b.n))
  (first | assumption | exact hmk.out _ (by repeat (first | exact Hid.out (And.left (by assumption)) | apply Below.drew | apply below_al)))
  (first | fail)
 obtain ⟨W1, hW1⟩ : ∃ W1 : World, W1 = (W0.alloc (.cells #[.int .i64 a.kind, .int .i64 a.var, .int .i64 a.n] 60)).drew := ⟨_, rfl⟩
 have hb01 : Hid (Below W0.heap.size W0 W1) := by show Below _ _ _; rw [hW1]; exact Below.drew (below_1 _ _)
 have hrg := rangeAt_heap (heap_alloc_new W0 (.cells #[.int .i64 a.kind, .int .i64 a.var, .int .i64 a.n] 60))
 have hA1 : Hid (∀ W, Below W1.heap.size W1 W → W.cell? ⟨W0.heap.size, 0, none⟩ = some (.int .i64 a.kind) ∧ W.cell? ⟨W0.heap.size, 1, none⟩ = some (.int .i64 a.var) ∧ W.cell? ⟨W0.heap.size, 2, none⟩ = some (.int .i64 a.n)) := fun W hW => by
  have hs1 : W0.heap.size < W1.heap.size := by rw [hW1]; show _ < (W0.alloc _).heap.size; simp
  refine ⟨?_, ?_, ?_⟩
  ·rw [hW.cell (p := ⟨W0.heap.size, 0, none⟩) hs1, hW1]; exact hrg 0 _ rfl
  ·rw [hW.cell (p := ⟨W0.heap.size, 1, none⟩) hs1, hW1]; exact hrg 1 _ rfl
  ·rw [hW.cell (p := ⟨W0.heap.size, 2, none⟩) hs1, hW1]; exact hrg 2 _ rfl
 rw [← hW1]
 clear hrg hW1 hS0
 have hS0 := hmk.out W1 hb01.out
 go_wp2_with fail
 go_region_held3 (fun W => Hid (Below W0.heap.size W0 W) ∧ W.cell? ⟨w.heap.size, 1, none⟩ = some (.int .i64 x.vol) ∧ W.cell? ⟨w.heap.size, 3, none⟩ = some (.slice (some ⟨b1, o1, none⟩) x.thr.length tc) ∧ W.cell? ⟨w.heap.size + 1, 0, none⟩ = some (.int .i64 pt) ∧ W.cell? ⟨w.heap.size + 1, 1, none⟩ = some (.int .i64 pk) ∧ W.cell? ⟨w.heap.size + 2, 0, none⟩ = some (.int .i64 qt) ∧ W.cell? ⟨w.heap.size + 2, 1, none⟩ = some (.int .i64 qk) ∧ W.cell? ⟨b1, o1 + pt, none⟩ = some (.slice (some ⟨b2, o2, none⟩) la ua) ∧ W.cell? ⟨b2, o2 + pk * 3, none⟩ = some (.int .i64 a.kind) ∧ W.cell? ⟨b2, o2 + pk * 3 + 1, none⟩ = some (.int .i64 a.var) ∧ W.cell? ⟨b2, o2 + pk * 3 + 2, none⟩ = some (.int .i64 a.n) ∧ W.cell? ⟨b1, o1 + qt, none⟩ = some (.slice (some ⟨b3, o3, none⟩) lb ub) ∧ W.cell? ⟨b3, o3 + qk * 3, none⟩ = some (.int .i64 b.kind) ∧ W.cell? ⟨b3, o3 + qk * 3 + 1, none⟩ = some (.int .i64 b.var) ∧ W.cell? ⟨b3, o3 + qk * 3 + 2, none⟩ = some (.int .i64 b.n))
  (first | assumption | exact hmk.out _ (by repeat (first | exact Hid.out (And.left (by assumption)) | apply Below.drew | apply below_al)))
  (first | fail)
 obtain ⟨W2, hW2⟩ : ∃ W2 : World, W2 = (W1.alloc (.cells #[.int .i64 b.kind, .int .i64 b.var, .int .i64 b.n] 60)).drew := ⟨_, rfl⟩
 have hb12 : Hid (Below W1.heap.size W1 W2) := by show Below _ _ _; rw [hW2]; exact Below.drew (below_1 _ _)
 have hrg := rangeAt_heap (heap_alloc_new W1 (.cells #[.int .i64 b.kind, .int .i64 b.var, .int .i64 b.n] 60))
 have hA2 : Hid (∀ W, Below W2.heap.size W2 W → W.cell? ⟨W1.heap.size, 0, none⟩ = some (.int .i64 b.kind) ∧ W.cell? ⟨W1.heap.size, 1, none⟩ = some (.int .i64 b.var) ∧ W.cell? ⟨W1.heap.size, 2, none⟩ = some (.int .i64 b.n)) := fun W hW => by
  have hs1 : W1.heap.size < W2.heap.size := by rw [hW2]; show _ < (W1.alloc _).heap.size; simp
  refine ⟨?_, ?_, ?_⟩
  ·rw [hW.cell (p := ⟨W1.heap.size, 0, none⟩) hs1, hW2]; exact hrg 0 _ rfl
  ·rw [hW.cell (p := ⟨W1.heap.size, 1, none⟩) hs1, hW2]; exact hrg 1 _ rfl
  ·rw [hW.cell (p := ⟨W1.heap.size, 2, none⟩) hs1, hW2]; exact hrg 2 _ rfl
 rw [← hW2]
 clear hrg hW2 hS0
 -- all that is read from here on, in every world behind
 have hfin : Hid (∀ W, Below W2.heap.size W2 W → Hid (Below w.heap.size w W) ∧ W.cell? ⟨w.heap.size, 1, none⟩ = some (.int .i64 x.vol) ∧ W.cell? ⟨w.heap.size + 1, 0, none⟩ = some (.int .i64 pt) ∧ W.cell? ⟨w.heap.size + 2, 0, none⟩ = some (.int .i64 qt) ∧ W.cell? ⟨W0.heap.size, 0, none⟩ = some (.int .i64 a.kind) ∧ W.cell? ⟨W0.heap.size, 1, none⟩ = some (.int .i64 a.var) ∧ W.cell? ⟨W0.heap.size, 2, none⟩ = some (.int .i64 a.n) ∧ W.cell? ⟨W1.heap.size, 0, none⟩ = some (.int .i64 b.kind) ∧ W.cell? ⟨W1.heap.size, 1, none⟩ = some (.int .i64 b.var) ∧ W.cell? ⟨W1.heap.size, 2, none⟩ = some (.int .i64 b.n)) := fun W hW => by
  have h1 := below_on hb12.out hW
  have h0 := below_on hb01.out h1
  obtain ⟨_, k1, _, k3, _, k5, _⟩ := hmk.out W h0
  obtain ⟨k6, k7, k8⟩ := hA1.out W h1
  obtain ⟨k9, k10, k11⟩ := hA2.out W hW
  exact ⟨below_on hbWH.out h0, k1, k3, k5, k6, k7, k8, k9, k10, k11⟩
 obtain ⟨hBw, c1, c2, c3, d0, d1, d2, f0, f1, f2⟩ := hfin.out W2 (Below.refl _ _)
 obtain ⟨k, v, n⟩ := a
 obtain ⟨k', v', n'⟩ := b
 dsimp only at d0 d1 d2 f0 f1 f2 ⊢
 have hR : Hid (edgeB x.vol ⟨pt, pk⟩ ⟨qt, qk⟩ ⟨k, v, n⟩ ⟨k', v', n'⟩ = (pt == qt || (if k = 5 then k' == 4 && v == v' else (isW ⟨k, v, n⟩ && k' == 1) && (v == v' && decide (v < x.vol))))) := rfl
 clear hmk hA1 hA2 hb01 hb12
 by_cases hpq : pt = qt
 ·subst hpq
  have hr : Hid (edgeB x.vol ⟨pt, pk⟩ ⟨pt, qk⟩ ⟨k, v, n⟩ ⟨k', v', n'⟩ = true) := by show _ = _; rw [hR.out]; simp
  clear hR hfin
  go_wp2
  go_ret
  exact ⟨by rw [hr.out]; rfl, hBw.out⟩
 ·have hpb : (pt == qt) = false := by simpa using hpq
  have hpi : ((pt : Int) == (qt : Int)) = false := by simp; omega
  by_cases h5 : k = 5
  ·subst h5
   by_cases h4 : k' = 4
   ·subst h4
    by_cases hv : v = v'
    ·subst hv
     have hr : Hid (edgeB x.vol ⟨pt, pk⟩ ⟨qt, qk⟩ ⟨5, v, n⟩ ⟨4, v, n'⟩ = true) := by show _ = _; rw [hR.out]; simp
     clear hR hfin
     go_wp2
     go_ret
     exact ⟨by rw [hr.out]; rfl, hBw.out⟩
    ·have hvb : (v == v') = false := by simpa using hv
     have hr : Hid (edgeB x.vol ⟨pt, pk⟩ ⟨qt, qk⟩ ⟨5, v, n⟩ ⟨4, v', n'⟩ = false) := by show _ = _; rw [hR.out]; simp [hpb, hvb]
     clear hR hfin
     go_wp2
     go_ret
     exact ⟨by rw [hr.out]; rfl, hBw.out⟩
   ·have h4b : (k' == 4) = false := by simpa using h4
    have hr : Hid (edgeB x.vol ⟨pt, pk⟩ ⟨qt, qk⟩ ⟨5, v, n⟩ ⟨k', v', n'⟩ = false) := by show _ = _; rw [hR.out]; simp [hpb, h4b]
    clear hR hfin
    go_wp2
    go_ret
    exact ⟨by rw [hr.out]; rfl, hBw.out⟩
  ·have h5b : (k == 5) = false := by simpa using h5
   have hR1 : Hid (edgeB x.vol ⟨pt, pk⟩ ⟨qt, qk⟩ ⟨k, v, n⟩ ⟨k', v', n'⟩ = ((isW ⟨k, v, n⟩ && k' == 1) && (v == v' && decide (v < x.vol)))) := by show _ = _; rw [hR.out]; simp [hpb, h5]
   clear hR
   cases hw : isW ⟨k, v, n⟩ with
   | false =>
    have hr : Hid (edgeB x.vol ⟨pt, pk⟩ ⟨qt, qk⟩ ⟨k, v, n⟩ ⟨k', v', n'⟩ = false) := by show _ = _; rw [hR1.out, hw]; rfl
    clear hR1
    go_wp2_with (go_at_call 44; refine (wr.out _ _ _ _).mono ?_; rintro e w2 ⟨rfl, hb⟩; obtain ⟨hBw, c1, c2, c3, d0, d1, d2, f0, f1, f2⟩ := hfin.out w2 hb)
    go_ret
    exact ⟨by rw [hr.out]; rfl, hBw.out⟩
   | true =>
    by_cases h1 : k' = 1
    ·subst h1
     by_cases hv : v = v'
     ·subst hv
      by_cases hl : v < x.vol
      ·have hr : Hid (edgeB x.vol ⟨pt, pk⟩ ⟨qt, qk⟩ ⟨k, v, n⟩ ⟨1, v, n'⟩ = true) := by show _ = _; rw [hR1.out, hw]; simp [hl]
       clear hR1
       go_wp2_with (go_at_call 44; refine (wr.out _ _ _ _).mono ?_; rintro e w2 ⟨rfl, hb⟩; obtain ⟨hBw, c1, c2, c3, d0, d1, d2, f0, f1, f2⟩ := hfin.out w2 hb)
       go_ret
       exact ⟨by rw [hr.out]; rfl, hBw.out⟩
      ·have hr : Hid (edgeB x.vol ⟨pt, pk⟩ ⟨qt, qk⟩ ⟨k, v, n⟩ ⟨1, v, n'⟩ = false) := by show _ = _; rw [hR1.out, hw]; simp [hl]
       clear hR1
       go_wp2_with (go_at_call 44; refine (wr.out _ _ _ _).mono ?_; rintro e w2 ⟨rfl, hb⟩; obtain ⟨hBw, c1, c2, c3, d0, d1, d2, f0, f1, f2⟩ := hfin.out w2 hb)
       go_ret
       exact ⟨by rw [hr.out]; exact congrArg (fun q => Ending.returned (Value.bool q)) (show decide (v < x.vol) = false by simpa using hl), hBw.out⟩
     ·have hvb : (v == v') = false := by simpa using hv
      have hr : Hid (edgeB x.vol ⟨pt, pk⟩ ⟨qt, qk⟩ ⟨k, v, n⟩ ⟨1, v', n'⟩ = false) := by show _ = _; rw [hR1.out, hw, hvb]; rfl
      clear hR1
      go_wp2_with (go_at_call 44; refine (wr.out _ _ _ _).mono ?_; rintro e w2 ⟨rfl, hb⟩; obtain ⟨hBw, c1, c2, c3, d0, d1, d2, f0, f1, f2⟩ := hfin.out w2 hb)
      go_ret
      exact ⟨by rw [hr.out]; rfl, hBw.out⟩
    ·have h1b : (k' == 1) = false := by simpa using h1
     have hr : Hid (edgeB x.vol ⟨pt, pk⟩ ⟨qt, qk⟩ ⟨k, v, n⟩ ⟨k', v', n'⟩ = false) := by show _ = _; rw [hR1.out, hw, h1b]; rfl
     clear hR1
     go_wp2_with (go_at_call 44; refine (wr.out _ _ _ _).mono ?_; rintro e w2 ⟨rfl, hb⟩; obtain ⟨hBw, c1, c2, c3, d0, d1, d2, f0, f1, f2⟩ := hfin.out w2 hb)
     go_ret
     exact ⟨by rw [hr.out]; rfl, hBw.out⟩
end Go.Proofs.YtknbchheoloaoaaGreat
