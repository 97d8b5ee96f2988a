import Derived.Test.YtjjccimeikkogaaGreatDoorLkF
import Derived.RangeFuncNested
import Derived.RangeFuncBound
import Derived.RangeFuncCalls
import Derived.RangeFuncLeaves
namespace Go.Proofs.YtjjccimeikkogaaGreatDoor
set_option linter.unusedVariables false
open Go.RowKit
structure Keep (F : Nat → Prop) (w w' : World) : Prop where
 os : w'.os = w.os
 tape : w'.tape = w.tape
 output : w'.output = w.output
 size : w.heap.size ≤ w'.heap.size
 block : ∀ k, F k → w'.heap[k]? = w.heap[k]?
theorem Keep.mono {F G : Nat → Prop} {w w' : World} (h : Keep F w w') (hG : ∀ k, G k → F k) : Keep G w w' := ⟨h.os, h.tape, h.output, h.size, fun k hk => h.block k (hG k hk)⟩
theorem Keep.trans {F : Nat → Prop} {a b c : World} (h : Keep F a b) (k : Keep F b c) : Keep F a c :=
 ⟨k.os.trans h.os, k.tape.trans h.tape, k.output.trans h.output, Nat.le_trans h.size k.size, fun i hi => (k.block i hi).trans (h.block i hi)⟩
structure Foot {α : Type} (J : (Nat → Prop) → List α → World → Prop) : Prop where
 lt : ∀ {F pre W}, J F pre W → ∀ k, F k → k < W.heap.size
 kp : ∀ {F pre A B}, J F pre A → Keep F A B → J F pre B
structure Stp (F F' : Nat → Prop) (w w' : World) : Prop where
 kp : Keep (fun k => k < w.heap.size ∧ ¬ F k) w w'
 fo : ∀ k, F' k → F k ∨ w.heap.size ≤ k
def SeqFp {α : Type} (n : Nat) (P : Program) (g : Nat) (lb : Array Value) (encs : α → Array Value) (xs : List α) (nB : Nat) (Cx : Nat → Prop) (w : World) : Prop :=
 ∀ (l : Nat) (J Jx : (Nat → Prop) → List α → World → Prop) (F0 : Nat → Prop) (W : World), Below w.heap.size w W → Foot J → Foot Jx → (∀ k, F0 k → nB ≤ k ∧ ¬ Cx k) →
  (∀ F pre x W1, J F pre W1 → Below nB w W1 → pre ++ [x] <+: xs → YieldAt Fence.wide (n - 1) P l (encs x) W1 fun e W' =>
   (e = .returned (.bool true) ∧ ∃ F', J F' (pre ++ [x]) W' ∧ Stp F F' W1 W') ∨ (e = .returned (.bool false) ∧ ∃ F', Jx F' (pre ++ [x]) W' ∧ Stp F F' W1 W')) →
  J F0 [] W →
  CallsIn Fence.wide n P g (#[.func (.yield l) #[] #[]] ++ lb) W fun e W' => (∃ v, e = .returned v) ∧ Below nB W W' ∧ ((∃ F', J F' xs W') ∨ (∃ pre F', pre <+: xs ∧ Jx F' pre W'))
def fpPost {α : Type} (I : (Nat → Prop) → List α → World → Prop) (Ix : Code → (Nat → Prop) → List α → World → Prop) (F : Nat → Prop) (xs : List α) (W : World) : Exit → Act → World → Prop
 | .normal, _, W' => ∃ F', I F' xs W' ∧ Stp F F' W W'
 | .ret, _, W' => ∃ F', Ix .ret F' xs W' ∧ Stp F F' W W'
 | .exit id, _, W' => ∃ F', Ix (.exit id) F' xs W' ∧ Stp F F' W W'
 | .goto t, _, W' => ∃ F', Ix (.goto t) F' xs W' ∧ Stp F F' W W'
 | .panic _, _, _ => False
 | .outgrown, _, _ => False
theorem keep_putObj {F : Nat → Prop} (W : World) (l : Nat) (o : Obj) (h : ¬ F l) : Keep F W (W.putObj l o) :=
 ⟨rfl, rfl, rfl, by simp [World.putObj], fun k hk => World.putObj_heap_other (fun e => h (e ▸ hk))⟩
theorem keep_alloc {F : Nat → Prop} (W : World) (o : Obj) (h : ∀ k, F k → k < W.heap.size) : Keep F W (W.alloc o) :=
 ⟨rfl, rfl, rfl, by simp, fun k hk => Below.heap_alloc W o k (h k hk)⟩
theorem below_putObj {n₀ : Nat} (W : World) (l : Nat) (o : Obj) (h : n₀ ≤ l) : Below n₀ W (W.putObj l o) := ⟨rfl, rfl, rfl, by simp [World.putObj], fun k hk => World.putObj_heap_other (by omega)⟩
theorem wpIn_range_fp {α : Type} {P : Program} {n : Nat} {g : Operand} {ps : Array Tmp} {assign body : Code} {Q : Exit → Act → World → Prop} {a : Act} {w : World}
  {gf : Nat} {lb : Array Value} (hg : a.eval g = .func (.func gf) #[] lb) (eg : ∀ args w, (callFunc gf args).run P w = .ok (.enter gf args) w)
  {encs : α → Array Value} {xs : List α} {nB : Nat} {Cx : Nat → Prop} (hseq : SeqFp (n - 1) P gf lb encs xs nB Cx w) (hps : ∀ x, (encs x).size = ps.size)
  (hnB : nB ≤ w.heap.size) (hCx : ∀ k, Cx k → k < w.heap.size)
  (I : (Nat → Prop) → List α → World → Prop) (Ix : Code → (Nat → Prop) → List α → World → Prop) (hI : Foot I) (hF1lo : ∀ F pre W, I F pre W → ∀ k, F k → nB ≤ k) (hIx : ∀ c, Foot (Ix c)) (F0 : Nat → Prop) (hF0 : ∀ k, F0 k → nB ≤ k ∧ ¬ Cx k) (h0 : I F0 [] w) (A : α → Act → (Nat → Prop) → List α → World → Prop) (hA : ∀ x a', Foot (A x a'))
  (hassign : ∀ (l : Nat) (F : Nat → Prop) (pre : List α) (x : α) (W : World), I F pre W → Below nB w W → pre ++ [x] <+: xs → ∀ K : Act → World → Prop, (∀ F' a' W', A x a' F' pre W' → Stp F F' W W' → K a' W') →
   assign.wpIn (Fence.wide.inRound l) (n - 1 - 1) P (Exit.then K (fun _ _ _ => False)) { tmps := (ps.zip (encs x)).foldl (fun t (p, v) => t.setIfInBounds p v) a.tmps, defers := [] } W)
  (hbody : ∀ (l : Nat) (F : Nat → Prop) (pre : List α) (x : α) (a' : Act) (W : World), A x a' F pre W → Below nB w W → pre ++ [x] <+: xs → body.wpIn (Fence.wide.inRound l) (n - 1 - 1) P (fpPost I Ix F (pre ++ [x]) W) a' W)
  (hdone : ∀ (D : Nat) (F : Nat → Prop) (W : World), I F xs W → Below nB w W → nB ≤ D → W.heap[D]? = some (.deferred (some [])) → ¬ F D → Q .normal { a with defers := { target := .collected D, args := #[] } :: a.defers } W)
  (hstop : ∀ (D : Nat) (c : Code) (F : Nat → Prop) (pre : List α) (W : World), pre <+: xs → Ix c F pre W → Below nB w W → nB ≤ D → W.heap[D]? = some (.deferred (some [])) → ¬ F D → c.wpIn Fence.wide n P Q { a with defers := { target := .collected D, args := #[] } :: a.defers } W) :
  (Code.rangeFunc g ps assign body).wpIn Fence.wide n P Q a w := by
 refine wpIn_rangeFunc ?_
 intro fn hfn
 obtain ⟨D, hD⟩ : ∃ D, w.heap.size = D := ⟨_, rfl⟩
 obtain ⟨l, hl⟩ : ∃ l, D + 1 = l := ⟨_, rfl⟩
 obtain ⟨rc, hrc⟩ : ∃ rc : LoopState → Option Code → Loop, rc = fun st pe => { state := st, pending := pe, fn, tmps := a.tmps, params := ps, assign, body, defers := D } := ⟨_, rfl⟩
 obtain ⟨W1, hW1⟩ : ∃ W1, (w.alloc (.deferred (some []))).alloc (.loop (rc .ready none)) = W1 := ⟨_, rfl⟩
 have hL1 : W1.heap[l]? = some (.loop (rc .ready none)) := by
  rw [← hW1, ← hl, ← hD]
  have := World.alloc_heap_new (w.alloc (.deferred (some []))) (.loop (rc .ready none))
  rwa [World.size_alloc] at this
 have hK1 : W1.heap[D]? = some (.deferred (some [])) := by
  rw [← hW1, ← hD]
  exact (Below.heap_alloc _ _ _ (by simp)).trans (World.alloc_heap_new w _)
 have hb1 : Below w.heap.size w W1 := by
  rw [← hW1]; exact ((Below.refl _ w).alloc (Nat.le_refl _) _).alloc (by simp) _
 have hF0lt := fun k hk => hI.lt h0 k hk
 have hI1 : I F0 [] W1 := hI.kp h0 ⟨hb1.os, hb1.tape, hb1.output, hb1.size, fun k hk => hb1.block k (hF0lt k hk)⟩
 -- what the iterator is told
 let J : (Nat → Prop) → List α → World → Prop := fun F pre W => ∃ F1, I F1 pre W ∧ ¬ F1 l ∧ ¬ F1 D ∧ (F = fun k => F1 k ∨ k = l ∨ k = D) ∧ W.heap[l]? = some (.loop (rc .ready none)) ∧ W.heap[D]? = some (.deferred (some []))
 let Jx : (Nat → Prop) → List α → World → Prop := fun F pre W => ∃ c F1, Ix c F1 pre W ∧ ¬ F1 l ∧ ¬ F1 D ∧ (F = fun k => F1 k ∨ k = l ∨ k = D) ∧ W.heap[l]? = some (.loop (rc .done (some c))) ∧ W.heap[D]? = some (.deferred (some []))
 have hJ : Foot J := by
  refine ⟨?_, ?_⟩
  ·rintro F pre W ⟨F1, h1, -, -, rfl, h4, h5⟩ k (hk | rfl | rfl)
   ·exact hI.lt h1 k hk
   ·exact (Array.getElem?_eq_some_iff.1 h4).1
   ·exact (Array.getElem?_eq_some_iff.1 h5).1
  ·rintro F pre A B ⟨F1, h1, h2, h3, rfl, h4, h5⟩ hk
   exact ⟨F1, hI.kp h1 (hk.mono fun k q => .inl q), h2, h3, rfl, (hk.block l (.inr (.inl rfl))).trans h4, (hk.block D (.inr (.inr rfl))).trans h5⟩
 have hJx : Foot Jx := by
  refine ⟨?_, ?_⟩
  ·rintro F pre W ⟨c, F1, h1, -, -, rfl, h4, h5⟩ k (hk | rfl | rfl)
   ·exact (hIx c).lt h1 k hk
   ·exact (Array.getElem?_eq_some_iff.1 h4).1
   ·exact (Array.getElem?_eq_some_iff.1 h5).1
  ·rintro F pre A B ⟨c, F1, h1, h2, h3, rfl, h4, h5⟩ hk
   exact ⟨c, F1, (hIx c).kp h1 (hk.mono fun k q => .inl q), h2, h3, rfl, (hk.block l (.inr (.inl rfl))).trans h4, (hk.block D (.inr (.inr rfl))).trans h5⟩
 refine ⟨l, [{ target := .collected D, args := #[] }], W1, { target := .fn (.func gf) lb, args := #[.func (.yield l) #[] #[]] }, W1, gf,
  #[.func (.yield l) #[] #[]] ++ lb, W1, ?_, ?_, ?_, ?_, ?_, ?_⟩
 ·rw [← hW1, hrc, ← hl, ← hD]; exact run_enterLoop_outer _ _ _ _ _
 ·simp only [resolve, hg]
  simp [go_sem]
 ·intro f' hf'; trivial
 ·simp [invoke, go_sem, eg]
 ·intro h; simp [Fence.wide] at h
 ·refine (hseq l J Jx (fun k => F0 k ∨ k = l ∨ k = D) W1 hb1 hJ hJx ?_ ?_ ⟨F0, hI1, fun q => by have := hF0lt l q; omega, fun q => by have := hF0lt D q; omega, rfl, hL1, hK1⟩).mono ?_
  ·rintro k (hk | rfl | rfl)
   ·exact hF0 k hk
   ·exact ⟨by omega, fun q => by have := hCx _ q; omega⟩
   ·exact ⟨by omega, fun q => by have := hCx _ q; omega⟩
  ·-- one round
   rintro F pre x W ⟨F1, hi, hnl, hnD, rfl, hlo, hk⟩ hbel hpre
   have hlt : l < W.heap.size := (Array.getElem?_eq_some_iff.1 hlo).1
   have hDlt : D < W.heap.size := (Array.getElem?_eq_some_iff.1 hk).1
   have hy := run_yield (P := P) (args := encs x) hlo (by rw [hrc]; exact hps x)
   rw [hrc] at hy
   refine ⟨fn, _, assign, body, hy, roundIn_of_wpIn hfn (hassign l F1 pre x W hi hbel hpre _ ?_)⟩
   intro Fa a' Wa hAa ha
   have hla : Wa.heap[l]? = some (.loop (rc .ready none)) := (ha.kp.block l ⟨hlt, hnl⟩).trans hlo
   have hDa : Wa.heap[D]? = some (.deferred (some [])) := (ha.kp.block D ⟨hDlt, hnD⟩).trans hk
   have hnla : ¬ Fa l := fun q => by
    rcases ha.fo l q with q | q
    ·exact hnl q
    ·omega
   have hnDa : ¬ Fa D := fun q => by
    rcases ha.fo D q with q | q
    ·exact hnD q
    ·omega
   have hlta : l < Wa.heap.size := (Array.getElem?_eq_some_iff.1 hla).1
   have hDlta : D < Wa.heap.size := (Array.getElem?_eq_some_iff.1 hDa).1
   have hsza : W.heap.size ≤ Wa.heap.size := ha.kp.size
   refine ⟨_, run_beginRound hla (by rw [hrc]), ?_⟩
   obtain ⟨W2, hW2⟩ : ∃ W2, Wa.putObj l (.loop { rc .ready none with state := .busy }) = W2 := ⟨_, rfl⟩
   have hl2 : W2.heap[l]? = some (.loop { rc .ready none with state := .busy }) := by rw [← hW2]; exact World.putObj_heap_same hlta
   have hk2 : W2.heap[D]? = some (.deferred (some [])) := by rw [← hW2]; exact (World.putObj_heap_other (by omega)).trans hDa
   have hsz : W2.heap.size = Wa.heap.size := by rw [← hW2]; simp [World.putObj]
   have hkp2 : ∀ G : Nat → Prop, ¬ G l → Keep G Wa W2 := fun G hG => by rw [← hW2]; exact keep_putObj Wa l _ hG
   have hi2 : A x a' Fa pre W2 := (hA x a').kp hAa (hkp2 Fa hnla)
   rw [hW2]
   have hbela : Below nB w Wa := hbel.trans ⟨ha.kp.os, ha.kp.tape, ha.kp.output, ha.kp.size, fun k hk => ha.kp.block k ⟨by have := hbel.size; omega, fun q => by have := hF1lo F1 pre W hi k q; omega⟩⟩
   have hbel2 : Below nB w W2 := by rw [← hW2]; exact hbela.trans (below_putObj _ _ _ (by omega))
   refine wpIn_mono (hbody l Fa pre x a' _ hi2 hbel2 hpre) ?_
   -- the end of a round
   have fin : ∀ (jump : Option Code) (F2 : Nat → Prop) (W3 : World), Stp Fa F2 W2 W3 →
     (Instr.endRound l jump).run P W3 = .ok (.bool jump.isNone) (W3.putObj l (.loop (rc (if jump.isNone then .ready else .done) jump))) ∧ ¬ F2 l ∧ ¬ F2 D ∧
     (W3.putObj l (.loop (rc (if jump.isNone then .ready else .done) jump))).heap[l]? = some (.loop (rc (if jump.isNone then .ready else .done) jump)) ∧
     (W3.putObj l (.loop (rc (if jump.isNone then .ready else .done) jump))).heap[D]? = some (.deferred (some [])) ∧
     Stp (fun k => F1 k ∨ k = l ∨ k = D) (fun k => F2 k ∨ k = l ∨ k = D) W (W3.putObj l (.loop (rc (if jump.isNone then .ready else .done) jump))) := fun jump F2 W3 hs => by
    have hl3 : W3.heap[l]? = some (.loop { rc .ready none with state := .busy }) := (hs.kp.block l ⟨by omega, hnla⟩).trans hl2
    have hk3 : W3.heap[D]? = some (.deferred (some [])) := (hs.kp.block D ⟨by omega, hnDa⟩).trans hk2
    have hrun := run_endRound (P := P) jump hl3
    rw [hrc] at hrun hl3 ⊢
    refine ⟨hrun, fun q => ?_, fun q => ?_, World.putObj_heap_same (Array.getElem?_eq_some_iff.1 hl3).1, (World.putObj_heap_other (by omega)).trans hk3, ⟨?_, ?_⟩⟩
    ·rcases hs.fo l q with q | q
     ·exact hnla q
     ·omega
    ·rcases hs.fo D q with q | q
     ·exact hnDa q
     ·omega
    ·have k0 : Keep (fun k => k < W.heap.size ∧ ¬ (F1 k ∨ k = l ∨ k = D)) W Wa := ha.kp.mono fun k q => ⟨q.1, fun q2 => q.2 (.inl q2)⟩
     have k1 : Keep (fun k => k < W.heap.size ∧ ¬ (F1 k ∨ k = l ∨ k = D)) Wa W2 := hkp2 _ fun q => q.2 (.inr (.inl rfl))
     have k2 : Keep (fun k => k < W.heap.size ∧ ¬ (F1 k ∨ k = l ∨ k = D)) W2 W3 := hs.kp.mono fun k q => ⟨by omega, fun q2 => by
      rcases ha.fo k q2 with q3 | q3
      ·exact q.2 (.inl q3)
      ·omega⟩
     exact ((k0.trans k1).trans k2).trans (keep_putObj W3 l _ fun q => q.2 (.inr (.inl rfl)))
    ·rintro k (q | q | q)
     ·rcases hs.fo k q with q | q
      ·rcases ha.fo k q with q | q
       ·exact .inl (.inl q)
       ·exact .inr q
      ·exact .inr (by omega)
     ·exact .inl (.inr (.inl q))
     ·exact .inl (.inr (.inr q))
   rintro e a3 W3 hp
   cases e with
   | normal =>
    obtain ⟨F2, hi3, hs⟩ := hp
    obtain ⟨hr, q1, q2, q3, q4, q5⟩ := fin none F2 W3 hs
    exact ⟨_, _, hr, .inl ⟨rfl, _, ⟨F2, hI.kp hi3 (keep_putObj W3 l _ q1), q1, q2, rfl, q3, q4⟩, q5⟩⟩
   | ret =>
    obtain ⟨F2, hi3, hs⟩ := hp
    obtain ⟨hr, q1, q2, q3, q4, q5⟩ := fin (some .ret) F2 W3 hs
    exact ⟨_, _, hr, .inr ⟨rfl, _, ⟨.ret, F2, (hIx _).kp hi3 (keep_putObj W3 l _ q1), q1, q2, rfl, q3, q4⟩, q5⟩⟩
   | exit id =>
    obtain ⟨F2, hi3, hs⟩ := hp
    obtain ⟨hr, q1, q2, q3, q4, q5⟩ := fin (some (.exit id)) F2 W3 hs
    exact ⟨_, _, hr, .inr ⟨rfl, _, ⟨.exit id, F2, (hIx _).kp hi3 (keep_putObj W3 l _ q1), q1, q2, rfl, q3, q4⟩, q5⟩⟩
   | goto t =>
    obtain ⟨F2, hi3, hs⟩ := hp
    obtain ⟨hr, q1, q2, q3, q4, q5⟩ := fin (some (.goto t)) F2 W3 hs
    exact ⟨_, _, hr, .inr ⟨rfl, _, ⟨.goto t, F2, (hIx _).kp hi3 (keep_putObj W3 l _ q1), q1, q2, rfl, q3, q4⟩, q5⟩⟩
   | panic ch => exact hp.elim
   | outgrown => exact hp.elim
  ·-- behind the iterator
   rintro e W2 ⟨⟨v, rfl⟩, hbW, (⟨F', F1, hi, q1, q2, rfl, hlo, hk⟩ | ⟨pre, F', hpre, c, F1, hi, q1, q2, rfl, hlo, hk⟩)⟩
   ·have hbz : Below nB w (W2.putObj l (.loop { rc .ready none with state := .exhausted })) := ((hb1.mono hnB).trans hbW).trans (below_putObj _ _ _ (by omega))
    exact ⟨none, _, by have := run_endLoop (P := P) hlo (by rw [hrc]; simp); rw [hrc] at this; exact this, hdone D F1 _ (hI.kp hi (keep_putObj W2 l _ q1)) (by rw [hrc] at hbz; exact hbz) (by omega) ((World.putObj_heap_other (by omega)).trans hk) q2⟩
   ·have hbz : Below nB w (W2.putObj l (.loop { rc .done (some c) with state := .exhausted })) := ((hb1.mono hnB).trans hbW).trans (below_putObj _ _ _ (by omega))
    exact ⟨some c, _, by have := run_endLoop (P := P) hlo (by rw [hrc]; simp); rw [hrc] at this; exact this, hstop D c F1 pre _ hpre ((hIx c).kp hi (keep_putObj W2 l _ q1)) (by rw [hrc] at hbz; exact hbz) (by omega) ((World.putObj_heap_other (by omega)).trans hk) q2⟩
end Go.Proofs.YtjjccimeikkogaaGreatDoor
