/- The specification's heap: an op, what the walk of l14Do holds. -/
import Derived.Test.YtcigiilhlealdaaKsL
import Derived.Deep.DeepCutAuto
import Derived.Deep.CutBlock
namespace Go.Proofs.Ytcigiilhlealdaa
set_option linter.unusedVariables false
open Go.ChangeShapes Go.WideShapes Go.ChangeAt Go.RowKit

/-- Where an op is being done: its box, the answer's two boxes. -/
structure DoS (w W : World) (F G : Nat → Prop) (H : Nat) (s : StM) (ps fs : List Nat) (ov : Value) (R : Nat) (qv : Value) (bx : Nat) (op : OpM) (out : Array Value) (gv : Value) : Prop where
  sp : SpW W G H s ps fs ov R qv
  kp : Keep F w W
  sub : ∀ k, F k → G k
  fl : ∀ k, F k → k < w.heap.size
  g0 : G bx
  g1 : G (bx + 1)
  g2 : G (bx + 2)
  nF : ¬ F bx ∧ ¬ F (bx + 1) ∧ ¬ F (bx + 2)
  go : ∀ k, gv.ownBlock = some k → G k
  b0 : W.heap[bx]? = some (.cells #[.int .i64 op.kind, .int .i64 op.a, .int .i64 op.b, .int .i64 op.c] 27 (0, 0))
  b1 : W.heap[bx + 1]? = some (.cells #[.int .i64 0, .int .i64 0, .int .i64 0, .slice none 0 0] 33 (0, 0))
  b2 : W.heap[bx + 2]? = some (.cells out 33 (0, 0))
theorem DoS.keep {w W W' : World} {F G : Nat → Prop} {H : Nat} {s s' : StM} {ps fs ps' fs' : List Nat} {ov ov' : Value} {R : Nat} {qv qv' : Value} {bx : Nat} {op : OpM} {out : Array Value} {gv : Value} (h : DoS w W F G H s ps fs ov R qv bx op out gv) (hs : SpW W' G H s' ps' fs' ov' R qv') (hk : Keep G W W') : DoS w W' F G H s' ps' fs' ov' R qv' bx op out gv :=
  ⟨hs, h.kp.trans (hk.mono h.sub), h.sub, h.fl, h.g0, h.g1, h.g2, h.nF, h.go, (hk.block _ h.g0).trans h.b0, (hk.block _ h.g1).trans h.b1, (hk.block _ h.g2).trans h.b2⟩
theorem DoS.below {w W W' : World} {F G : Nat → Prop} {H : Nat} {s : StM} {ps fs : List Nat} {ov : Value} {R : Nat} {qv : Value} {bx : Nat} {op : OpM} {out : Array Value} {gv : Value} (h : DoS w W F G H s ps fs ov R qv bx op out gv) (hb : Below W.heap.size W W') : DoS w W' F G H s ps fs ov R qv bx op out gv := h.keep (h.sp.below hb) (Keep.of hb h.sp.lo.2.2)
/-- A cell of G's blocks changes: what the heap has does not. -/
theorem SpW.out {W : World} {G : Nat → Prop} {H R : Nat} {s : StM} {ps fs : List Nat} {ov qv : Value} (h : SpW W G H s ps fs ov R qv) {b : Nat} (hb : G b) (j : Nat) (v : Value) : SpW (W.setCell ⟨b, j, none⟩ v) G H s ps fs ov R qv := h.mv (fun k _ hn => ⟨set_other _ (fun e => hn (by rw [e]; exact hb)), hn⟩) fun k q => by have := h.lo.2.2 k q; simpa [World.setCell] using this
theorem DoS.set {w W : World} {F G : Nat → Prop} {H : Nat} {s : StM} {ps fs : List Nat} {ov : Value} {R : Nat} {qv : Value} {bx : Nat} {op : OpM} {out : Array Value} {gv : Value} (h : DoS w W F G H s ps fs ov R qv bx op out gv) (j : Nat) (v : Value) : DoS w (W.setCell ⟨bx + 2, j, none⟩ v) F G H s ps fs ov R qv bx op (out.setIfInBounds j v) gv :=
  ⟨h.sp.out h.g2 j v, h.kp.setCell (p := ⟨bx + 2, j, none⟩) h.nF.2.2 v, h.sub, h.fl, h.g0, h.g1, h.g2, h.nF, h.go, (set_other _ (by omega)).trans h.b0, (set_other _ (by omega)).trans h.b1, set_same _ h.b2⟩
theorem DoS.gone {w W W' : World} {F G : Nat → Prop} {H : Nat} {s s' : StM} {ps fs ps' fs' : List Nat} {ov ov' : Value} {R : Nat} {qv qv' : Value} {bx : Nat} {op : OpM} {out : Array Value} {g0 gv : Value} (h : DoS w W F G H s ps fs ov R qv bx op out g0) (hs : SpW W' (fun k => G k ∨ gv.ownBlock = some k) H s' ps' fs' ov' R qv') (hk : Keep G W W') : DoS w W' F (fun k => G k ∨ gv.ownBlock = some k) H s' ps' fs' ov' R qv' bx op out gv :=
  ⟨hs, h.kp.trans (hk.mono h.sub), fun k q => .inl (h.sub k q), h.fl, .inl h.g0, .inl h.g1, .inl h.g2, h.nF, fun k q => .inr q, (hk.block _ h.g0).trans h.b0, (hk.block _ h.g1).trans h.b1, (hk.block _ h.g2).trans h.b2⟩
/-- Behind the op's own doing. -/
def DoR (w : World) (F : Nat → Prop) (H : Nat) (s : StM) (R bx : Nat) (op : OpM) (W : World) : Prop :=
  ∃ (G : Nat → Prop) (ps fs : List Nat) (ov qv gv : Value), DoS w W F G H (doM s op) ps fs ov R qv bx op #[.int .i64 (codeM s op), .int .i64 0, .int .i64 0, gv] gv ∧ OutAt w.heap.size W gv (ansM s op).gone
theorem out_nil (B : Nat) (W : World) : OutAt B W (.slice none 0 0) [] := ⟨rfl, .inl ⟨rfl, rfl⟩⟩
theorem DoS.start {w : World} {F : Nat → Prop} {H : Nat} {s : StM} {ps fs : List Nat} {ov : Value} {R : Nat} {qv : Value} (h : SpW w F H s ps fs ov R qv) (op : OpM) :
    DoS w (((w.alloc (.cells #[.int .i64 op.kind, .int .i64 op.a, .int .i64 op.b, .int .i64 op.c] 27)).alloc (.cells #[.int .i64 0, .int .i64 0, .int .i64 0, .slice none 0 0] 33)).alloc (.cells #[.int .i64 0, .int .i64 0, .int .i64 0, .slice none 0 0] 33)) F (fun k => ((F k ∨ k = w.heap.size) ∨ k = w.heap.size + 1) ∨ k = w.heap.size + 2) H s ps fs ov R qv w.heap.size op #[.int .i64 0, .int .i64 0, .int .i64 0, .slice none 0 0] (.slice none 0 0) := by
  have h1 := h.boxed (.cells #[.int .i64 op.kind, .int .i64 op.a, .int .i64 op.b, .int .i64 op.c] 27)
  have h2 := h1.boxed (.cells #[.int .i64 0, .int .i64 0, .int .i64 0, .slice none 0 0] 33)
  have h3 := h2.boxed (.cells #[.int .i64 0, .int .i64 0, .int .i64 0, .slice none 0 0] 33)
  simp only [World.size_alloc] at h3
  have hb : Below w.heap.size w (((w.alloc (.cells #[.int .i64 op.kind, .int .i64 op.a, .int .i64 op.b, .int .i64 op.c] 27)).alloc (.cells #[.int .i64 0, .int .i64 0, .int .i64 0, .slice none 0 0] 33)).alloc (.cells #[.int .i64 0, .int .i64 0, .int .i64 0, .slice none 0 0] 33)) := below_on2 (below_1 _ _) (below_on2 (below_1 _ _) (below_1 _ _))
  have hF := h.lo.2.2
  refine ⟨h3, Keep.of hb hF, fun k q => .inl (.inl (.inl q)), hF, .inl (.inl (.inr rfl)), .inl (.inr rfl), .inr rfl, ⟨fun q => by have := hF _ q; omega, fun q => by have := hF _ q; omega, fun q => by have := hF _ q; omega⟩, fun k q => by simp [Value.ownBlock] at q, ?_, ?_, ?_⟩
  · rw [Below.heap_alloc _ _ _ (by rw [World.size_alloc, World.size_alloc]; omega), Below.heap_alloc _ _ _ (by rw [World.size_alloc]; omega)]
    exact heap_alloc_new _ _
  · rw [Below.heap_alloc _ _ _ (by rw [World.size_alloc, World.size_alloc]; omega)]
    have := heap_alloc_new (w.alloc (.cells #[.int .i64 op.kind, .int .i64 op.a, .int .i64 op.b, .int .i64 op.c] 27)) (.cells #[.int .i64 0, .int .i64 0, .int .i64 0, .slice none 0 0] 33)
    rwa [World.size_alloc] at this
  · have := heap_alloc_new ((w.alloc (.cells #[.int .i64 op.kind, .int .i64 op.a, .int .i64 op.b, .int .i64 op.c] 27)).alloc (.cells #[.int .i64 0, .int .i64 0, .int .i64 0, .slice none 0 0] 33)) (.cells #[.int .i64 0, .int .i64 0, .int .i64 0, .slice none 0 0] 33)
    rwa [World.size_alloc, World.size_alloc] at this
end Go.Proofs.Ytcigiilhlealdaa
