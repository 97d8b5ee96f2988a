/- The order of races that the program sorts by, draws counted. -/
import Derived.Test.YtknbchheoloaoaaGreatSoS
import Derived.Sort.Grow
import Derived.Deep.Draws
import Derived.Shelf.SlGeneric
import Derived.Shelf.SlSortCmp.WholeK
import Derived.Ground.SlsfProg
import Derived.Test.YtknbchheoloaoaaGreatProg
import Derived.Test.YtknbchheoloaoaaGreatSaI
import Derived.Shelf.SlSortCmp.NoneTotal
namespace Go.Proofs.YtknbchheoloaoaaGreat
set_option linter.unusedVariables false
open Go.ChangeShapes Go.WideShapes Go.ChangeAt Go.RowKit
structure BelowD (B : Nat) (w w' : World) : Prop where
 below : Below B w w'
 dr : w.drawn ≤ w'.drawn
theorem BelowD.refl (B : Nat) (w : World) : BelowD B w w := ⟨Below.refl B w, Nat.le_refl _⟩
theorem BelowD.size {B : Nat} {w w' : World} (h : BelowD B w w') : w.heap.size ≤ w'.heap.size := h.below.size
theorem BelowD.trans {B : Nat} {a b c : World} (h : BelowD B a b) (k : BelowD B b c) : BelowD B a c := ⟨h.below.trans k.below, Nat.le_trans h.dr k.dr⟩
theorem BelowD.mono {B B' : Nat} {w w' : World} (h : BelowD B w w') (hB : B' ≤ B) : BelowD B' w w' := ⟨h.below.mono hB, h.dr⟩
theorem BelowD.drew {B : Nat} {a w : World} (h : BelowD B a w) : BelowD B a w.drew := ⟨h.below.drew, Nat.le_succ_of_le h.dr⟩
theorem belowD_1 (w : World) (o : Obj) : BelowD w.heap.size w (w.alloc o) := ⟨below_1 _ _, Nat.le_refl _⟩
theorem belowD_on {w0 w w' : World} (h : BelowD w0.heap.size w0 w) (k : BelowD w.heap.size w w') : BelowD w0.heap.size w0 w' := ⟨below_on h.below k.below, Nat.le_trans h.dr k.dr⟩
theorem BelowD.grows {w w' : World} (h : BelowD w.heap.size w w') : ∃ q os, w' = Go.Sort.grow (w.drewN q) os := by
 refine ⟨w'.drawn - w.drawn, w'.heap.extract w.heap.size w'.heap.size, ?_⟩
 have h1 := h.below.os
 have h2 := h.below.tape
 have h3 := h.below.output
 have h4 := h.dr
 have h5 : w'.heap = w.heap ++ w'.heap.extract w.heap.size w'.heap.size := by
  apply Array.ext_getElem?
  intro i
  have hs := h.below.size
  by_cases hi : i < w.heap.size
  ·rw [h.below.block i hi, Array.getElem?_append_left hi]
  ·rw [Array.getElem?_append_right (by omega), Array.getElem?_extract]
   by_cases hj : i < w'.heap.size
   ·rw [if_pos (by omega)]; congr 1; omega
   ·rw [if_neg (by omega), Array.getElem?_eq_none (by omega)]
 obtain ⟨hp, tp, dr, os, out⟩ := w'
 obtain ⟨hp0, tp0, dr0, os0, out0⟩ := w
 simp only [Go.Sort.grow, World.drewN] at *
 subst h1; subst h2; subst h3
 rw [← h5]
 congr 1
 omega
structure RegInvD (F : (Nat → Value) → Act) (Val : Nat → Value → Nat → Nat → World → Prop) (src : Nat → Option Nat) (w0 : World) (listed : Array Bool) (a : Act) (w : World) (vs : Nat → Value) (lo hi : Nat → Nat) : Prop where
 frame : a = F vs
 below : BelowD w0.heap.size w0 w
 val : ∀ i, listed.getD i false = true → Val i (vs i) (lo i) (hi i) w
 ge : ∀ i, listed.getD i false = true → w0.heap.size ≤ lo i
 lt : ∀ i, listed.getD i false = true → hi i ≤ w.heap.size
 le : ∀ i, listed.getD i false = true → lo i ≤ hi i
 apart : ∀ i j, listed.getD i false = true → listed.getD j false = true → i ≠ j → src i ≠ some j → src j ≠ some i → hi i ≤ lo j ∨ hi j ≤ lo i
def RegPostD (F : (Nat → Value) → Act) (Val : Nat → Value → Nat → Nat → World → Prop) (src : Nat → Option Nat) (vs : Nat → Value) (lo hi : Nat → Nat) (w : World) (i : Nat) (o : Oper) (a' : Act) (w' : World) : Prop :=
 ∃ v lo' hi', a' = F (upd vs i v) ∧ BelowD w.heap.size w w' ∧ Val i v lo' hi' w' ∧ ((lo' = w.heap.size ∧ hi' = w'.heap.size) ∨ (∃ j, src i = some j ∧ (∃ e ∈ o.after, Region.binds .any e = true ∧ e.on = j) ∧ lo' = lo j ∧ hi' = hi j))
theorem RegPostD.own {Q : Exit → Act → World → Prop} {F : (Nat → Value) → Act} {Val : Nat → Value → Nat → Nat → World → Prop} {src : Nat → Option Nat} {vs : Nat → Value} {lo hi : Nat → Nat} {w : World} {i : Nat} {o : Oper} {a' : Act} {w' : World} (v : Value) (ha : a' = F (upd vs i v)) (hb : BelowD w.heap.size w w') (hv : Val i v w.heap.size w'.heap.size w') : Kont Q (RegPostD F Val src vs lo hi w i o) .normal a' w' := show RegPostD F Val src vs lo hi w i o a' w' from ⟨v, _, _, ha, hb, hv, .inl ⟨rfl, rfl⟩⟩
theorem RegPostD.take {Q : Exit → Act → World → Prop} {F : (Nat → Value) → Act} {Val : Nat → Value → Nat → Nat → World → Prop} {src : Nat → Option Nat} {vs : Nat → Value} {lo hi : Nat → Nat} {w : World} {i : Nat} {o : Oper} {a' : Act} {w' : World} (v : Value) (e : Edge) (hs : src i = some e.on) (he : e ∈ o.after) (hbi : Region.binds .any e = true) (ha : a' = F (upd vs i v)) (hb : BelowD w.heap.size w w') (hv : Val i v (lo e.on) (hi e.on) w') : Kont Q (RegPostD F Val src vs lo hi w i o) .normal a' w' := show RegPostD F Val src vs lo hi w i o a' w' from ⟨v, _, _, ha, hb, hv, .inr ⟨e.on, hs, ⟨e, he, hbi, rfl⟩, rfl, rfl⟩⟩
def RegStep2D (P : Program) (l : List Oper) (Q : Exit → Act → World → Prop) (F : (Nat → Value) → Act) (Val : Nat → Value → Nat → Nat → World → Prop) (src : Nat → Option Nat) (w0 : World) (i : Nat) (o : Oper) : Prop :=
 ∀ (vs : Nat → Value) (lo hi : Nat → Nat) (w : World), BelowD w0.heap.size w0 w → (∀ e ∈ o.after, Region.binds .any e = true → Val e.on (vs e.on) (lo e.on) (hi e.on) w ∧ w0.heap.size ≤ lo e.on ∧ hi e.on ≤ w.heap.size ∧ (∀ e' ∈ o.after, Region.binds .any e' = true → e.on ≠ e'.on → src e.on ≠ some e'.on → src e'.on ≠ some e.on → hi e.on ≤ lo e'.on ∨ hi e'.on ≤ lo e.on)) →
  wpList P l.toArray (Kont Q (RegPostD F Val src vs lo hi w i o)) [o] (F vs) w
theorem wp_region_own2D {P : Program} {id : Nat} {l : List Oper} {Q : Exit → Act → World → Prop} {a : Act} {w : World} (hm : P.follows .mixedOrders = true) (F : (Nat → Value) → Act) (Val : Nat → Value → Nat → Nat → World → Prop) (src : Nat → Option Nat) (hs1 : ∀ i i' j, src i = some j → src i' = some j → i = i') (hs2 : ∀ i j, src i = some j → src j = none) (vs0 : Nat → Value) (ha : a = F vs0)
  (hst : ∀ i v lo hi w w', Below w.heap.size w w' → hi ≤ w.heap.size → Val i v lo hi w → Val i v lo hi w')
  (hop : ∀ i o, l[i]? = some o → RegStep2D P l Q F Val src w i o)
  (hend : ∀ (vs : Nat → Value) (lo hi : Nat → Nat) (w' : World), BelowD w.heap.size w w' → (∀ i, i < l.length → Val i (vs i) (lo i) (hi i) w') → (∀ i, i < l.length → w.heap.size ≤ lo i ∧ hi i ≤ w'.heap.size ∧ lo i ≤ hi i) → (∀ i j, i < l.length → j < l.length → i ≠ j → src i ≠ some j → src j ≠ some i → hi i ≤ lo j ∨ hi j ≤ lo i) → Q .normal (F vs) w') :
  (hacyc : ∀ listed : Array Bool, listed.size = l.length → Region.ready .any l.toArray listed = [] → ∀ i, i < l.length → listed.getD i false = true) → (Code.region id l.toArray true).wp P Q a w := by
 intro hacyc
 refine wp_region_any hm ?_
 refine wpAny_inv (fun listed a w' => ∃ vs lo hi, RegInvD F Val src w listed a w' vs lo hi) ?_ ?_ _ _ _ _ (by simp) ?_ ?_
 ·rintro listed a w1 hs ⟨vs, lo, hi, h⟩ i hi'
  obtain ⟨h0, o, ho, hall⟩ := mem_ready.1 hi'
  have hw : w.heap.size ≤ w1.heap.size := h.below.size
  have hl : ∀ j, listed.getD j false = true → j ≠ i := fun j hj e => by
   subst e
   rcases Nat.lt_or_ge j listed.size with h' | h'
   ·simp [h'] at h0 hj; rw [h0] at hj; cases hj
   ·simp [Array.getElem?_eq_none h'] at hj
  have hset : ∀ j, (listed.setIfInBounds i true).getD j false = true → j = i ∨ (j ≠ i ∧ listed.getD j false = true) := fun j hj => by
   by_cases e : j = i
   ·exact .inl e
   ·exact .inr ⟨e, by rw [getD_set_ne false (Ne.symm e)] at hj; exact hj⟩
  rw [h.frame]
  refine wpOp_mono ?_ (wpOp_of_list ho (hop i o (by simpa using ho) vs lo hi w1 h.below fun e he hb => ⟨h.val _ (hall e he hb), h.ge _ (hall e he hb), h.lt _ (hall e he hb), fun e' he' hb' hne n1 n2 => h.apart _ _ (hall e he hb) (hall e' he' hb') hne n1 n2⟩))
  rintro a' w2 ⟨v, lo', hi2, rfl, hb, hv, hint⟩
  have hw2 := hb.size
  -- where the interval lies
  have f1 : w.heap.size ≤ lo' ∧ hi2 ≤ w2.heap.size ∧ lo' ≤ hi2 := by
   rcases hint with ⟨e1, e2⟩ | ⟨j, _, ⟨e, he, hb', rfl⟩, e1, e2⟩
   ·subst e1; subst e2; exact ⟨hw, Nat.le_refl _, hw2⟩
   ·have hj := hall e he hb'
    rw [e1, e2]
    exact ⟨h.ge _ hj, Nat.le_trans (h.lt _ hj) hw2, h.le _ hj⟩
  have f2 : ∀ k, listed.getD k false = true → src i ≠ some k → src k ≠ some i → hi2 ≤ lo k ∨ hi k ≤ lo' := fun k hk n1 n2 => by
   rcases hint with ⟨e1, e2⟩ | ⟨j, hj', ⟨e, he, hb', hj⟩, e1, e2⟩
   ·subst e1; exact .inr (h.lt k hk)
   ·subst hj
    have hjl := hall e he hb'
    rw [e1, e2]
    have hne : e.on ≠ k := fun q => n1 (by rw [hj', q])
    refine h.apart _ _ hjl hk hne (by rw [hs2 _ _ hj']; simp) fun q => ?_
    exact hl k hk (hs1 _ _ _ q hj')
  refine ⟨upd vs i v, updN lo i lo', updN hi i hi2, rfl, h.below.trans (hb.mono hw), ?_, ?_, ?_, ?_, ?_⟩
  ·intro j hj
   rcases hset j hj with rfl | ⟨e, hj⟩
   ·rw [upd_same, updN_same, updN_same]; exact hv
   ·rw [upd_other _ _ e, updN_other _ _ e, updN_other _ _ e]; exact hst _ _ _ _ _ _ hb.below (h.lt j hj) (h.val j hj)
  ·intro j hj
   rcases hset j hj with rfl | ⟨e, hj⟩
   ·rw [updN_same]; exact f1.1
   ·rw [updN_other _ _ e]; exact h.ge j hj
  ·intro j hj
   rcases hset j hj with rfl | ⟨e, hj⟩
   ·rw [updN_same]; exact f1.2.1
   ·rw [updN_other _ _ e]; exact Nat.le_trans (h.lt j hj) hw2
  ·intro j hj
   rcases hset j hj with rfl | ⟨e, hj⟩
   ·rw [updN_same, updN_same]; exact f1.2.2
   ·rw [updN_other _ _ e, updN_other _ _ e]; exact h.le j hj
  ·intro j k hj hk hne n1 n2
   rcases hset j hj with ej | ⟨ej, hj'⟩
   ·rcases hset k hk with ek | ⟨ek, hk'⟩
    ·exact absurd (ej.trans ek.symm) hne
    ·subst ej
     rw [updN_same, updN_same, updN_other _ _ ek, updN_other _ _ ek]
     exact f2 k hk' n1 n2
   ·rcases hset k hk with ek | ⟨ek, hk'⟩
    ·subst ek
     rw [updN_same, updN_same, updN_other _ _ ej, updN_other _ _ ej]
     exact (f2 j hj' n2 n1).symm
    ·rw [updN_other _ _ ej, updN_other _ _ ej, updN_other _ _ ek, updN_other _ _ ek]
     exact h.apart j k hj' hk' hne n1 n2
 ·rintro listed a w1 hs ⟨vs, lo, hi, h⟩ hr
  have hd := hacyc listed (by simpa using hs) hr
  rw [h.frame]
  exact hend vs lo hi w1 h.below (fun i hi => h.val i (hd i hi)) (fun i hi => ⟨h.ge i (hd i hi), h.lt i (hd i hi), h.le i (hd i hi)⟩) (fun i j hi hj hne n1 n2 => h.apart i j (hd i hi) (hd j hj) hne n1 n2)
 ·simp [unlisted]
 ·have hf : ∀ i, (Array.replicate l.length false).getD i false = true → False := fun i h => by
   rcases Nat.lt_or_ge i l.length with h' | h'
   ·simp [h'] at h
   ·simp [h'] at h
  refine ⟨vs0, fun _ => 0, fun _ => 0, ha, BelowD.drew (BelowD.refl _ _), fun i hi => (hf i (by simpa using hi)).elim, fun i hi => (hf i (by simpa using hi)).elim, fun i hi => (hf i (by simpa using hi)).elim, fun i hi => (hf i (by simpa using hi)).elim, fun i j hi => (hf i (by simpa using hi)).elim⟩
def RegStepD (P : Program) (l : List Oper) (Q : Exit → Act → World → Prop) (F : (Nat → Value) → Act) (Val : Nat → Value → Nat → Nat → World → Prop) (w0 : World) (i : Nat) (o : Oper) : Prop :=
 ∀ (vs : Nat → Value) (lo hi : Nat → Nat) (w : World), BelowD w0.heap.size w0 w → (∀ e ∈ o.after, Region.binds .any e = true → Val e.on (vs e.on) (lo e.on) (hi e.on) w ∧ w0.heap.size ≤ lo e.on ∧ hi e.on ≤ w.heap.size ∧ (∀ e' ∈ o.after, Region.binds .any e' = true → e.on ≠ e'.on → hi e.on ≤ lo e'.on ∨ hi e'.on ≤ lo e.on)) →
  wpList P l.toArray (Kont Q fun a' w' => ∃ v, a' = F (upd vs i v) ∧ BelowD w.heap.size w w' ∧ Val i v w.heap.size w'.heap.size w') [o] (F vs) w
theorem wp_region_ownD {P : Program} {id : Nat} {l : List Oper} {Q : Exit → Act → World → Prop} {a : Act} {w : World} (hm : P.follows .mixedOrders = true) (F : (Nat → Value) → Act) (Val : Nat → Value → Nat → Nat → World → Prop) (vs0 : Nat → Value) (ha : a = F vs0)
  (hst : ∀ i v lo hi w w', Below w.heap.size w w' → hi ≤ w.heap.size → Val i v lo hi w → Val i v lo hi w')
  (hop : ∀ i o, l[i]? = some o → RegStepD P l Q F Val w i o)
  (hend : ∀ (vs : Nat → Value) (lo hi : Nat → Nat) (w' : World), BelowD w.heap.size w w' → (∀ i, i < l.length → Val i (vs i) (lo i) (hi i) w') → (∀ i, i < l.length → w.heap.size ≤ lo i ∧ hi i ≤ w'.heap.size ∧ lo i ≤ hi i) → (∀ i j, i < l.length → j < l.length → i ≠ j → hi i ≤ lo j ∨ hi j ≤ lo i) → Q .normal (F vs) w')
  (hacyc : ∀ listed : Array Bool, listed.size = l.length → Region.ready .any l.toArray listed = [] → ∀ i, i < l.length → listed.getD i false = true) : (Code.region id l.toArray true).wp P Q a w := by
 refine wp_region_own2D hm F Val (fun _ => none) (by simp) (by simp) vs0 ha hst (fun i o ho vs lo hi w1 hb hv => ?_) (fun vs lo hi w1 hb h1 h2 h3 => hend vs lo hi w1 hb h1 h2 fun i j hi hj hne => h3 i j hi hj hne (by simp) (by simp)) hacyc
 refine wpList_kont ?_ (hop i o ho vs lo hi w1 hb fun e he hb' => ?_)
 ·rintro a' w2 ⟨v, e1, e2, e3⟩
  exact ⟨v, _, _, e1, e2, e3, .inl ⟨rfl, rfl⟩⟩
 ·obtain ⟨g1, g2, g3, g4⟩ := hv e he hb'
  exact ⟨g1, g2, g3, fun e' he' hb'' hne => g4 e' he' hb'' hne (by simp) (by simp)⟩
set_option maxRecDepth 1000000 in
set_option maxHeartbeats 8000000 in
theorem inOrder1_grown (r q : RaceL) (w : World) : Calls Tryz.prog 55 #[.agg #[.int .i64 r.t, .int .i64 r.a, .int .i64 r.u, .int .i64 r.b], .agg #[.int .i64 q.t, .int .i64 q.a, .int .i64 q.u, .int .i64 q.b]] w fun e w' => e = .returned (.int .i64 (cmpL r.z q.z)) ∧ ∃ q os, w' = Go.Sort.grow (w.drewN q) os := by
 rw [← orL_cmp]
 obtain ⟨r0, r1, r2, r3⟩ := r
 obtain ⟨q0, q1, q2, q3⟩ := q
 dsimp only
 have hcmp : Hid (∀ (a b : Int) (W : World), Calls Tryz.prog 57 #[.int .i64 a, .int .i64 b] W fun e w' => e = .returned (.int .i64 (signI a b)) ∧ w' = W) := fun a b W => compare_calls a b W
 go_enter Tryz.func55, Tryz.ntmps55
 go_wp2_with fail
 obtain ⟨W0, hW0⟩ : ∃ W0 : World, W0 = (w.alloc (.cells #[.int .i64 r0, .int .i64 r1, .int .i64 r2, .int .i64 r3] 89)).alloc (.cells #[.int .i64 q0, .int .i64 q1, .int .i64 q2, .int .i64 q3] 89) := ⟨_, rfl⟩
 have e0 : W0.heap[w.heap.size]? = some (.cells #[.int .i64 r0, .int .i64 r1, .int .i64 r2, .int .i64 r3] 89) := by
  rw [hW0, Below.heap_alloc _ _ _ (by simp)]; exact heap_alloc_new _ _
 have e1 : W0.heap[w.heap.size + 1]? = some (.cells #[.int .i64 q0, .int .i64 q1, .int .i64 q2, .int .i64 q3] 89) := by
  rw [hW0]; have := heap_alloc_new (w.alloc (.cells #[.int .i64 r0, .int .i64 r1, .int .i64 r2, .int .i64 r3] 89)) (.cells #[.int .i64 q0, .int .i64 q1, .int .i64 q2, .int .i64 q3] 89); simpa using this
 have hsz : w.heap.size + 2 ≤ W0.heap.size := by rw [hW0]; simp
 have hb0 : Hid (BelowD w.heap.size w W0) := by show BelowD _ _ _; rw [hW0]; exact belowD_on (belowD_1 _ _) (belowD_1 _ _)
 have hcr : Hid (∀ W, Below W0.heap.size W0 W → W.rangeAt w.heap.size 0 [.int .i64 r0, .int .i64 r1, .int .i64 r2, .int .i64 r3]) := fun W hW j u hj => (hW.cell (p := ⟨w.heap.size, 0 + j, none⟩) (show w.heap.size < _ by omega)).trans (rangeAt_heap e0 j u hj)
 have hcq : Hid (∀ W, Below W0.heap.size W0 W → W.rangeAt (w.heap.size + 1) 0 [.int .i64 q0, .int .i64 q1, .int .i64 q2, .int .i64 q3]) := fun W hW j u hj => (hW.cell (p := ⟨w.heap.size + 1, 0 + j, none⟩) (show w.heap.size + 1 < _ by omega)).trans (rangeAt_heap e1 j u hj)
 rw [← hW0]
 clear e0 e1 hsz hW0
 refine wp_region_ownD (by kernel_rfl) (fun vs => { tmps := #[.agg #[.int .i64 r0, .int .i64 r1, .int .i64 r2, .int .i64 r3], .agg #[.int .i64 q0, .int .i64 q1, .int .i64 q2, .int .i64 q3], .pointer (some ⟨w.heap.size, 0, none⟩), .pointer (some ⟨w.heap.size + 1, 0, none⟩), vs 22, vs 0, vs 1, vs 2, vs 3, vs 4, vs 5, vs 6, vs 7, vs 8, vs 9, vs 10, vs 11, vs 12, vs 13, vs 14, vs 15, vs 16, vs 17, vs 18, vs 19, vs 20, vs 21], defers := [] }) (ordVal r0 r1 r2 r3 q0 q1 q2 q3 w.heap.size) (fun i => if i = 22 then .int .i64 0 else undef) rfl (ordVal_below r0 r1 r2 r3 q0 q1 q2 q3 w.heap.size) (allAt_all ⟨?_, ?_, ?_, ?_, ?_, ?_, ?_, ?_, ?_, ?_, ?_, ?_, ?_, ?_, ?_, ?_, ?_, ?_, ?_, ?_, ?_, ?_, ?_, trivial⟩) ?_ (regForward_done (by kernel_rfl))
 case refine_1 =>
  intro vs lo hi W hB hv
  go_wp2
  exact ⟨_, rfl, BelowD.refl _ _, rfl⟩
 case refine_2 =>
  intro vs lo hi W hB hv
  have e0 : vs 0 = .pointer (some ⟨w.heap.size, 0, none⟩) := (hv ⟨0, .data⟩ (by simp) rfl).1
  have c0 : W.cell? ⟨w.heap.size, 0, none⟩ = some (.int .i64 r0) := by simpa using hcr.out W hB.below 0 _ rfl
  clear hv hcr hcq hcmp
  simp only [e0]
  go_wp2
  exact ⟨.int .i64 r0, by simp [upd, e0], BelowD.refl _ _, rfl⟩
 case refine_3 =>
  intro vs lo hi W hB hv
  go_wp2
  exact ⟨_, rfl, BelowD.refl _ _, rfl⟩
 case refine_4 =>
  intro vs lo hi W hB hv
  have e0 : vs 2 = .pointer (some ⟨w.heap.size + 1, 0, none⟩) := (hv ⟨2, .data⟩ (by simp) rfl).1
  have c0 : W.cell? ⟨w.heap.size + 1, 0, none⟩ = some (.int .i64 q0) := by simpa using hcq.out W hB.below 0 _ rfl
  clear hv hcr hcq hcmp
  simp only [e0]
  go_wp2
  exact ⟨.int .i64 q0, by simp [upd, e0], BelowD.refl _ _, rfl⟩
 case refine_5 =>
  intro vs lo hi W hB hv
  have e1 : vs 1 = .int .i64 r0 := (hv ⟨1, .data⟩ (by simp) rfl).1
  have e2 : vs 3 = .int .i64 q0 := (hv ⟨3, .data⟩ (by simp) rfl).1
  clear hv hcr hcq
  simp only [e1, e2]
  go_wp2_with (go_at_call 57; refine (hcmp.out _ _ _).mono ?_; rintro e w2 ⟨rfl, rfl⟩)
  exact ⟨.int .i64 (signI r0 q0), by simp [upd, e1, e2], BelowD.refl _ _, rfl⟩
 case refine_6 =>
  intro vs lo hi W hB hv
  go_wp2
  exact ⟨_, rfl, BelowD.refl _ _, rfl⟩
 case refine_7 =>
  intro vs lo hi W hB hv
  have e0 : vs 5 = .pointer (some ⟨w.heap.size, 1, none⟩) := (hv ⟨5, .data⟩ (by simp) rfl).1
  have c0 : W.cell? ⟨w.heap.size, 1, none⟩ = some (.int .i64 r1) := by simpa using hcr.out W hB.below 1 _ rfl
  clear hv hcr hcq hcmp
  simp only [e0]
  go_wp2
  exact ⟨.int .i64 r1, by simp [upd, e0], BelowD.refl _ _, rfl⟩
 case refine_8 =>
  intro vs lo hi W hB hv
  go_wp2
  exact ⟨_, rfl, BelowD.refl _ _, rfl⟩
 case refine_9 =>
  intro vs lo hi W hB hv
  have e0 : vs 7 = .pointer (some ⟨w.heap.size + 1, 1, none⟩) := (hv ⟨7, .data⟩ (by simp) rfl).1
  have c0 : W.cell? ⟨w.heap.size + 1, 1, none⟩ = some (.int .i64 q1) := by simpa using hcq.out W hB.below 1 _ rfl
  clear hv hcr hcq hcmp
  simp only [e0]
  go_wp2
  exact ⟨.int .i64 q1, by simp [upd, e0], BelowD.refl _ _, rfl⟩
 case refine_10 =>
  intro vs lo hi W hB hv
  have e1 : vs 6 = .int .i64 r1 := (hv ⟨6, .data⟩ (by simp) rfl).1
  have e2 : vs 8 = .int .i64 q1 := (hv ⟨8, .data⟩ (by simp) rfl).1
  clear hv hcr hcq
  simp only [e1, e2]
  go_wp2_with (go_at_call 57; refine (hcmp.out _ _ _).mono ?_; rintro e w2 ⟨rfl, rfl⟩)
  exact ⟨.int .i64 (signI r1 q1), by simp [upd, e1, e2], BelowD.refl _ _, rfl⟩
 case refine_11 =>
  intro vs lo hi W hB hv
  go_wp2
  exact ⟨_, rfl, BelowD.refl _ _, rfl⟩
 case refine_12 =>
  intro vs lo hi W hB hv
  have e0 : vs 10 = .pointer (some ⟨w.heap.size, 2, none⟩) := (hv ⟨10, .data⟩ (by simp) rfl).1
  have c0 : W.cell? ⟨w.heap.size, 2, none⟩ = some (.int .i64 r2) := by simpa using hcr.out W hB.below 2 _ rfl
  clear hv hcr hcq hcmp
  simp only [e0]
  go_wp2
  exact ⟨.int .i64 r2, by simp [upd, e0], BelowD.refl _ _, rfl⟩
 case refine_13 =>
  intro vs lo hi W hB hv
  go_wp2
  exact ⟨_, rfl, BelowD.refl _ _, rfl⟩
 case refine_14 =>
  intro vs lo hi W hB hv
  have e0 : vs 12 = .pointer (some ⟨w.heap.size + 1, 2, none⟩) := (hv ⟨12, .data⟩ (by simp) rfl).1
  have c0 : W.cell? ⟨w.heap.size + 1, 2, none⟩ = some (.int .i64 q2) := by simpa using hcq.out W hB.below 2 _ rfl
  clear hv hcr hcq hcmp
  simp only [e0]
  go_wp2
  exact ⟨.int .i64 q2, by simp [upd, e0], BelowD.refl _ _, rfl⟩
 case refine_15 =>
  intro vs lo hi W hB hv
  have e1 : vs 11 = .int .i64 r2 := (hv ⟨11, .data⟩ (by simp) rfl).1
  have e2 : vs 13 = .int .i64 q2 := (hv ⟨13, .data⟩ (by simp) rfl).1
  clear hv hcr hcq
  simp only [e1, e2]
  go_wp2_with (go_at_call 57; refine (hcmp.out _ _ _).mono ?_; rintro e w2 ⟨rfl, rfl⟩)
  exact ⟨.int .i64 (signI r2 q2), by simp [upd, e1, e2], BelowD.refl _ _, rfl⟩
 case refine_16 =>
  intro vs lo hi W hB hv
  go_wp2
  exact ⟨_, rfl, BelowD.refl _ _, rfl⟩
 case refine_17 =>
  intro vs lo hi W hB hv
  have e0 : vs 15 = .pointer (some ⟨w.heap.size, 3, none⟩) := (hv ⟨15, .data⟩ (by simp) rfl).1
  have c0 : W.cell? ⟨w.heap.size, 3, none⟩ = some (.int .i64 r3) := by simpa using hcr.out W hB.below 3 _ rfl
  clear hv hcr hcq hcmp
  simp only [e0]
  go_wp2
  exact ⟨.int .i64 r3, by simp [upd, e0], BelowD.refl _ _, rfl⟩
 case refine_18 =>
  intro vs lo hi W hB hv
  go_wp2
  exact ⟨_, rfl, BelowD.refl _ _, rfl⟩
 case refine_19 =>
  intro vs lo hi W hB hv
  have e0 : vs 17 = .pointer (some ⟨w.heap.size + 1, 3, none⟩) := (hv ⟨17, .data⟩ (by simp) rfl).1
  have c0 : W.cell? ⟨w.heap.size + 1, 3, none⟩ = some (.int .i64 q3) := by simpa using hcq.out W hB.below 3 _ rfl
  clear hv hcr hcq hcmp
  simp only [e0]
  go_wp2
  exact ⟨.int .i64 q3, by simp [upd, e0], BelowD.refl _ _, rfl⟩
 case refine_20 =>
  intro vs lo hi W hB hv
  have e1 : vs 16 = .int .i64 r3 := (hv ⟨16, .data⟩ (by simp) rfl).1
  have e2 : vs 18 = .int .i64 q3 := (hv ⟨18, .data⟩ (by simp) rfl).1
  clear hv hcr hcq
  simp only [e1, e2]
  go_wp2_with (go_at_call 57; refine (hcmp.out _ _ _).mono ?_; rintro e w2 ⟨rfl, rfl⟩)
  exact ⟨.int .i64 (signI r3 q3), by simp [upd, e1, e2], BelowD.refl _ _, rfl⟩
 case refine_21 =>
  intro vs lo hi W hB hv
  have e0 : vs 4 = .int .i64 (signI r0 q0) := (hv ⟨4, .data⟩ (by simp) rfl).1
  have e1 : vs 9 = .int .i64 (signI r1 q1) := (hv ⟨9, .data⟩ (by simp) rfl).1
  have e2 : vs 14 = .int .i64 (signI r2 q2) := (hv ⟨14, .data⟩ (by simp) rfl).1
  have e3 : vs 19 = .int .i64 (signI r3 q3) := (hv ⟨19, .data⟩ (by simp) rfl).1
  clear hv hcr hcq hcmp
  simp only [e0, e1, e2, e3]
  go_wp2
  exact ⟨.slice (some ⟨W.heap.size, 0, none⟩) 4 4, by simp [upd, e0, e1, e2, e3], belowD_1 _ _, rfl, rangeAt_heap (heap_alloc_new W _), by simp⟩
 case refine_22 =>
  intro vs lo hi W hB hv
  obtain ⟨e0, h0, _⟩ := (hv ⟨20, .data⟩ (by simp) rfl).1
  have hor : Hid (Calls Tryz.prog 56 #[.slice (some ⟨lo 20, 0, none⟩) 4 4] W fun e w' => e = .returned (.int .i64 (orL [signI r0 q0, signI r1 q1, signI r2 q2, signI r3 q3])) ∧ w' = W) := or_calls (lo 20) [signI r0 q0, signI r1 q1, signI r2 q2, signI r3 q3] W h0 (by simp)
  clear hv hcr hcq hcmp h0
  simp only [e0]
  go_wp2_with (go_at_call 56; refine (show Calls _ _ _ _ _ from hor.out).mono ?_; rintro e w2 ⟨rfl, rfl⟩)
  exact ⟨.int .i64 (orL [signI r0 q0, signI r1 q1, signI r2 q2, signI r3 q3]), by simp [upd, e0], BelowD.refl _ _, rfl⟩
 case refine_23 =>
  intro vs lo hi W hB hv
  have e0 : Hid (vs 21 = .int .i64 (orL [signI r0 q0, signI r1 q1, signI r2 q2, signI r3 q3])) := (hv ⟨21, .data⟩ (by simp) rfl).1
  clear hv hcr hcq hcmp
  go_wp2
  exact ⟨_, rfl, BelowD.refl _ _, e0.out⟩
 case refine_24 =>
  intro vs lo hi W hB hval _ _
  have e22 : Hid (vs 22 = .int .i64 (orL [signI r0 q0, signI r1 q1, signI r2 q2, signI r3 q3])) := hval 22 (by simp)
  clear hval
  go_wp2
  go_ret
  exact ⟨by rw [← e22.out]; rfl, (belowD_on hb0.out hB).grows⟩
end Go.Proofs.YtknbchheoloaoaaGreat

/- The sort of races, laid at this program. -/
namespace Go.Proofs
open Go.Shelf
def Tryz.sortRaces_ren : Go.Shelf.Ren := ⟨fun | 6 => 54 | 15 => 82 | 14 => 81 | 28 => 95 | 29 => 96 | 20 => 87 | 21 => 88 | 22 => 89 | 23 => 90 | 24 => 91 | 25 => 92 | 26 => 93 | 27 => 94 | 46 => 97 | 47 => 98 | 48 => 99 | 49 => 100 | 50 => 101 | 57 => 102 | n => n, fun | 22 => 28 | 24 => 89 | 25 => 106 | 3 => 3 | 39 => 126 | 0 => 0 | 53 => 140 | 55 => 71 | 4 => 4 | 46 => 133 | 45 => 132 | 50 => 137 | 5 => 5 | 9 => 9 | 66 => 142 | 70 => 146 | 76 => 148 | 77 => 149 | n => n, fun | n => n⟩
theorem Tryz.sortRaces : Go.Proofs.SlLaysF0.n6 Tryz.prog Tryz.sortRaces_ren := {
 mixed := by kernel_rfl
 f6 := ⟨Tryz.f54.name, by decide, Tryz.func54.trans (congrArg some (by kernel_rfl))⟩
 f14 := ⟨Tryz.f81.name, by decide, Tryz.func81.trans (congrArg some (by kernel_rfl))⟩
 f15 := Tryz.func82.trans (congrArg some (by kernel_rfl))
 f20 := ⟨Tryz.f87.name, by decide, Tryz.func87.trans (congrArg some (by kernel_rfl))⟩
 f21 := ⟨Tryz.f88.name, by decide, Tryz.func88.trans (congrArg some (by kernel_rfl))⟩
 f22 := ⟨Tryz.f89.name, by decide, Tryz.func89.trans (congrArg some (by kernel_rfl))⟩
 f23 := ⟨Tryz.f90.name, by decide, Tryz.func90.trans (congrArg some (by kernel_rfl))⟩
 f24 := ⟨Tryz.f91.name, by decide, Tryz.func91.trans (congrArg some (by kernel_rfl))⟩
 f25 := ⟨Tryz.f92.name, by decide, Tryz.func92.trans (congrArg some (by kernel_rfl))⟩
 f26 := ⟨Tryz.f93.name, by decide, Tryz.func93.trans (congrArg some (by kernel_rfl))⟩
 f27 := ⟨Tryz.f94.name, by decide, Tryz.func94.trans (congrArg some (by kernel_rfl))⟩
 f28 := Tryz.func95.trans (congrArg some (by kernel_rfl))
 f29 := Tryz.func96.trans (congrArg some (by kernel_rfl))
 f46 := ⟨Tryz.f97.name, by decide, Tryz.func97.trans (congrArg some (by kernel_rfl))⟩
 f47 := Tryz.func98.trans (congrArg some (by kernel_rfl))
 f48 := Tryz.func99.trans (congrArg some (by kernel_rfl))
 f49 := ⟨Tryz.f100.name, by decide, Tryz.func100.trans (congrArg some (by kernel_rfl))⟩
 f50 := ⟨Tryz.f101.name, by decide, Tryz.func101.trans (congrArg some (by kernel_rfl))⟩
 f57 := ⟨Tryz.f102.name, by decide, Tryz.func102.trans (congrArg some (by kernel_rfl))⟩
 t0 := Tryz.underlying0
 a0 := Tryz.isAgg0
 z0 := Tryz.sizeOf0
 v0 := Tryz.zeroValue0
 t3 := Tryz.underlying3
 a3 := Tryz.isAgg3
 z3 := Tryz.sizeOf3
 v3 := Tryz.zeroValue3
 t4 := Tryz.underlying4
 a4 := Tryz.isAgg4
 z4 := Tryz.sizeOf4
 v4 := Tryz.zeroValue4
 t5 := Tryz.underlying5
 a5 := Tryz.isAgg5
 z5 := Tryz.sizeOf5
 v5 := Tryz.zeroValue5
 t9 := Tryz.underlying9
 a9 := Tryz.isAgg9
 z9 := Tryz.sizeOf9
 v9 := Tryz.zeroValue9
 t22 := Tryz.underlying28
 a22 := Tryz.isAgg28
 z22 := Tryz.sizeOf28
 v22 := Tryz.zeroValue28
 t25 := Tryz.underlying106
 a25 := Tryz.isAgg106
 z25 := Tryz.sizeOf106
 v25 := Tryz.zeroValue106
 t39 := Tryz.underlying126
 a39 := Tryz.isAgg126
 z39 := Tryz.sizeOf126
 v39 := Tryz.zeroValue126
 t45 := Tryz.underlying132
 a45 := Tryz.isAgg132
 z45 := Tryz.sizeOf132
 v45 := Tryz.zeroValue132
 t46 := Tryz.underlying133
 a46 := Tryz.isAgg133
 z46 := Tryz.sizeOf133
 v46 := Tryz.zeroValue133
 t50 := Tryz.underlying137
 a50 := Tryz.isAgg137
 z50 := Tryz.sizeOf137
 v50 := Tryz.zeroValue137
 t53 := Tryz.underlying140
 a53 := Tryz.isAgg140
 z53 := Tryz.sizeOf140
 v53 := Tryz.zeroValue140
 t55 := Tryz.underlying71
 a55 := Tryz.isAgg71
 z55 := Tryz.sizeOf71
 v55 := Tryz.zeroValue71
 t66 := Tryz.underlying142
 a66 := Tryz.isAgg142
 z66 := Tryz.sizeOf142
 v66 := Tryz.zeroValue142
 t70 := Tryz.underlying146
 a70 := Tryz.isAgg146
 z70 := Tryz.sizeOf146
 v70 := Tryz.zeroValue146
 t76 := Tryz.underlying148
 a76 := Tryz.isAgg148
 z76 := Tryz.sizeOf148
 v76 := Tryz.zeroValue148
 t77 := Tryz.underlying149
 a77 := Tryz.isAgg149
 z77 := Tryz.sizeOf149
 v77 := Tryz.zeroValue149 }
end Go.Proofs

/- The program's sort of races: inOrder. -/
namespace Go.Proofs.YtknbchheoloaoaaGreat
set_option linter.unusedVariables false
open Go.ChangeShapes Go.WideShapes Go.ChangeAt Go.RowKit Go.Sort
instance raceInhabited : Inhabited RaceL := ⟨⟨0, 0, 0, 0⟩⟩
theorem flat_races (rs : List RaceL) : (flatK RaceL.v 4 rs.toArray).toList = racesC rs := by
 apply List.ext_getElem?
 intro t
 by_cases ht : t < rs.length * 4
 ·have h1 : t / 4 < rs.length := by omega
  have h2 : t % 4 < 4 := Nat.mod_lt _ (by decide)
  have e : t = t / 4 * 4 + t % 4 := by omega
  have hs : t < (flatK RaceL.v 4 rs.toArray).size := by rw [size_flatK]; simpa using ht
  have hg := get_flatK RaceL.v 4 rs.toArray t (by simpa using ht)
  rw [getElem!_pos _ t hs] at hg
  have h3 : (racesC rs)[t]? = rs[t / 4].v[t % 4]? := by
   have := racesC_get h1 (t % 4) h2
   rw [← e] at this; exact this
  have h4 : rs.toArray[t / 4]! = rs[t / 4] := by rw [getElem!_pos rs.toArray (t / 4) (by simpa using h1)]; simp
  have h5 : t % 4 < (rs[t / 4].v).length := by simpa [RaceL.v] using h2
  rw [Array.getElem?_toList, Array.getElem?_eq_getElem hs, hg, h4, h3, getElem!_pos (rs[t / 4].v) (t % 4) h5, List.getElem?_eq_getElem h5]
 ·rw [List.getElem?_eq_none (by simp; omega), List.getElem?_eq_none (by rw [racesC_length]; omega)]
theorem holds_races {w : World} {B g n cap : Nat} {rs : List RaceL} (h : RacesAt B w (.slice (some ⟨g, 0, none⟩) n cap) rs) : HoldsK RaceL.v 4 w g 0 rs.toArray := by
 have hn : n = rs.length := by obtain ⟨a', c', e⟩ := own_form h; injection e
 subst hn
 intro j hj
 have hj2 : j < rs.length * 4 := by simpa using hj
 refine ⟨?_, ?_⟩
 ·rw [Nat.zero_add, World.ownsRow.cellAt h j hj2, ← flat_races, Array.getElem?_toList, getElem!_pos _ j hj, Array.getElem?_eq_getElem hj]
  rfl
 ·rw [Nat.zero_add]; exact World.ownsRow.frozenAt h j
theorem races_sorted {w : World} {B g m cap : Nat} {os : Array Obj} {rs rs' : List RaceL} (hl : rs'.length = rs.length) (h : RacesAt B w (.slice (some ⟨g, 0, none⟩) rs.length cap) rs) :
  RacesAt B (sortWorldK RaceL.v 4 w g 0 m rs'.toArray os) (.slice (some ⟨g, 0, none⟩) rs.length cap) rs' ∧ w.grownBy (sortWorldK RaceL.v 4 w g 0 m rs'.toArray os) (some g) := by
 rcases h.2 with ⟨h0, _⟩ | ⟨g', cap', cur, hv, hg, hb, hn, hcap, hsz, htk⟩
 ·cases h0
 cases hv
 have hgs : g < w.heap.size := (Array.getElem?_eq_some_iff.1 hb).1
 have hfs : (flatK RaceL.v 4 rs'.toArray).size = rs.length * 4 := by rw [size_flatK]; simp [hl]
 refine ⟨?_, ⟨rfl, rfl, rfl, by simp [sortWorldK, putRowK, putRow, mapBlock, Go.Sort.grow, Sort.ahead], fun k hk hne => ?_⟩⟩
 ·unfold RacesAt
  rw [hl]
  refine ⟨by rw [racesC_length, hl], .inr ⟨g, cap, putCells id 0 (flatK RaceL.v 4 rs'.toArray) cur, rfl, hg, ?_, hn, hcap, by simp [putCells, hsz], ?_⟩⟩
  ·show (Go.Sort.grow (putRow id (Sort.ahead w m) g 0 (flatK RaceL.v 4 rs'.toArray)) os).heap[g]? = _
   rw [heap_grow_old _ _ (by simpa using hgs)]
   simp [putRow, mapBlock, Sort.ahead, Array.getElem?_modify, hb, onCells]
  ·rw [← flat_races]
   apply List.ext_getElem?
   intro j
   by_cases hj : j < rs.length * 4
   ·have hjc : j < cur.size := by rw [hsz]; exact Nat.lt_of_lt_of_le hj (Nat.mul_le_mul_right 4 hn)
    have hjf : j < (flatK RaceL.v 4 rs'.toArray).size := by rw [hfs]; exact hj
    rw [List.getElem?_take_of_lt hj, Array.getElem?_toList, Array.getElem?_toList, Array.getElem?_eq_getElem hjf]
    simp only [putCells, Array.getElem?_mapIdx, Array.getElem?_eq_getElem hjc, Option.map_some]
    rw [if_pos ⟨Nat.zero_le _, by rw [Nat.zero_add]; exact hjf⟩, Nat.sub_zero, getElem!_pos _ j hjf]
    rfl
   ·rw [List.getElem?_take_eq_none (by omega), List.getElem?_eq_none (by simp; omega)]
 ·show (Go.Sort.grow (putRow id (Sort.ahead w m) g 0 (flatK RaceL.v 4 rs'.toArray)) os).heap[k]? = _
  rw [heap_grow_old _ _ (by simpa using hk)]
  have : g ≠ k := fun e => hne (by rw [e])
  simp [putRow, mapBlock, Sort.ahead, Array.getElem?_modify, this]
theorem races_swo : SWO (ltOf fun r q : RaceL => cmpL r.z q.z) where
 irrefl r := lessR_irrefl r
 trans r q p h1 h2 := lessR_trans (r := r) (q := q) (p := p) h1 h2
 ntrans r q p h1 h2 := by
  show lessR r p = false
  have h1' : lessR r q = false := h1
  have h2' : lessR q p = false := h2
  cases h : lessR r p with
  | false => rfl
  | true =>
   by_cases e : r = q
   ·subst e; rw [h] at h2'; cases h2'
   ·have h3 := lessR_trans (lessR_total h1' e) h
    rw [h3] at h2'; cases h2'
set_option maxRecDepth 1000000 in
set_option maxHeartbeats 4000000 in
theorem inOrder_calls : InOrd := by
 intro B v rs W hB hlen hR
 rcases hR.2 with ⟨hv, hn0⟩ | ⟨g, cap, cur, hv, hg, hb, hn, hcap, hsz, htk⟩
 ·have hnil : rs = [] := List.eq_nil_of_length_eq_zero hn0
  subst hnil
  subst hv
  have hcon : Hid (Calls Tryz.prog 54 #[.slice none 0 0, .func (.func 55) #[] #[]] W fun e w' => e = .returned (.tuple #[]) ∧ w' = W) := AnyF.slices_SortFunc_none Tryz.sortRaces none 0 (.func (.func 55) #[] #[]) W
  have hRH : Hid (RacesAt B W (.slice none 0 0) []) := hR
  clear hR
  go_enter Tryz.func29, Tryz.ntmps29
  go_wp2_with (go_at_call 54; refine (show Calls _ _ _ _ _ from hcon.out).mono ?_; rintro e w' ⟨rfl, rfl⟩)
  go_ret
  exact ⟨rfl, [], .refl _, .nil, hRH.out, ⟨rfl, rfl, rfl, Nat.le_refl _, fun _ _ _ => rfl⟩⟩
 ·subst hv
  have hgs : g < W.heap.size := (Array.getElem?_eq_some_iff.1 hb).1
  have eg : ∀ args w, (callFunc 55 args).run Tryz.prog w = .ok (.enter 55 args) w := enters_of Tryz.func55 (by kernel_rfl) rfl
  have hcl : CmpLays Tryz.prog 55 #[] RaceL.v 4 (fun r q => cmpL r.z q.z) g 0 rs.toArray.size W := fun _ _ _ _ x y => inOrder1_grown x y _
  have hc0 := AnyQ.slices_SortFunc Tryz.sortRaces 4 Tryz.isAgg89 Tryz.sizeOf89 RaceL.v (fun _ => rfl) (fun x v hv => racesC_one' [x] v (by rw [racesC_one]; exact hv)) (fun r q => cmpL r.z q.z) races_swo 55 #[] g 0 cap rs.toArray W eg hcl (holds_races hR) hgs (by simp; omega)
  have hcon : Hid (Calls Tryz.prog 54 #[.slice (some ⟨g, 0, none⟩) rs.length cap, .func (.func 55) #[] #[]] W fun e w' => e = .returned (.tuple #[]) ∧ ∃ rs', rs'.Perm rs ∧ (rs'.Pairwise fun r q => lessR q r = false) ∧ RacesAt B w' (.slice (some ⟨g, 0, none⟩) rs.length cap) rs' ∧ W.grownBy w' (some g)) := by
   have hc1 : Calls Tryz.prog 54 #[.slice (some ⟨g, 0, none⟩) rs.length cap, .func (.func 55) #[] #[]] W _ := hc0
   refine hc1.mono ?_
   rintro e w' ⟨rfl, d', m, os, hp, hs, rfl⟩
   have hd : d'.size = rs.length := by simpa using hp.1
   have hpm : d'.toList.Perm rs := by
    have := hp.2.2
    have e1 : d'.extract 0 rs.toArray.size = d' := by apply Array.ext_getElem?; intro i; simp [Array.getElem?_extract]; intro h; omega
    rw [e1] at this
    simpa using this
   have hpw : d'.toList.Pairwise fun r q => lessR q r = false := by
    refine List.pairwise_iff_getElem.2 fun i j hi hj hij => ?_
    have hj' : j < d'.size := by simpa using hj
    have hi' : i < d'.size := by simpa using hi
    have := hs i j (Nat.zero_le _) hij (by simpa [hd] using hj')
    rw [getElem!_pos d' j hj', getElem!_pos d' i hi'] at this
    have h9 : lessR d'[j] d'[i] = false := this
    simpa using h9
   have := races_sorted (m := m) (os := os) (rs' := d'.toList) (by simpa using hd) hR
   exact ⟨rfl, d'.toList, hpm, hpw, this.1, this.2⟩
  clear hc0 hcl eg hR hb htk
  go_enter Tryz.func29, Tryz.ntmps29
  go_wp2_with (go_at_call 54; refine (show Calls _ _ _ _ _ from hcon.out).mono ?_; rintro e w' ⟨rfl, rs', h1, h2, h3, h4⟩)
  go_ret
  exact ⟨rfl, rs', h1, h2, h3, h4⟩
end Go.Proofs.YtknbchheoloaoaaGreat
