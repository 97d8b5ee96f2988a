/- The program's conflict and leads. -/
import Derived.Test.YtknbchheoloaoaaGreatSaB
namespace Go.Proofs.YtknbchheoloaoaaGreat
set_option linter.unusedVariables false
open Go.ChangeShapes Go.WideShapes Go.ChangeAt Go.RowKit

def cfVal (g : Nat) (p q : DoneL) (a b : ActL) : Nat → Value → Nat → Nat → World → Prop
 | 0, v, _, _, _ => v = .pointer (some ⟨g, 0, none⟩)
 | 1, v, _, _, _ => v = .agg #[.int .i64 p.t, .int .i64 p.k]
 | 2, v, _, _, _ => v = .agg #[.int .i64 a.kind, .int .i64 a.var, .int .i64 a.n]
 | 3, v, _, _, _ => v = .pointer (some ⟨g, 0, none⟩)
 | 4, v, _, _, _ => v = .agg #[.int .i64 q.t, .int .i64 q.k]
 | 5, v, _, _, _ => v = .agg #[.int .i64 b.kind, .int .i64 b.var, .int .i64 b.n]
 | 6, v, lo, hi, w => v = .pointer (some ⟨lo, 0, none⟩) ∧ w.there lo 0 3 ∧ lo < hi
 | 7, v, lo, hi, w => v = .pointer (some ⟨lo, 0, none⟩) ∧ w.there lo 0 3 ∧ lo < hi
 | _, _, _, _, _ => True
theorem there_below {w w' : World} {g n : Nat} (h : w.there g 0 n) (hb : Below w.heap.size w w') (hg : g < w.heap.size) : w'.there g 0 n := fun j hj => by
 have := h j hj
 rw [hb.cell (p := ⟨g, 0 + j, none⟩) hg, hb.frozen (p := ⟨g, 0 + j, none⟩) hg]
 exact this
theorem cfVal_below (g : Nat) (p q : DoneL) (a b : ActL) : ∀ i v lo hi (w w' : World), Below w.heap.size w w' → hi ≤ w.heap.size → cfVal g p q a b i v lo hi w → cfVal g p q a b i v lo hi w' := by
 intro i v lo hi w w' hb hh h
 match i, h with
 | 0, h => exact h
 | 1, h => exact h
 | 2, h => exact h
 | 3, h => exact h
 | 4, h => exact h
 | 5, h => exact h
 | 6, h => exact ⟨h.1, there_below h.2.1 hb (by have := h.2.2; omega), h.2.2⟩
 | 7, h => exact ⟨h.1, there_below h.2.1 hb (by have := h.2.2; omega), h.2.2⟩
 | n + 8, h => trivial
def cfR (W0 : World) (a b : ActL) (vs : Nat → Value) (W : World) : Prop := ∃ l6 l7 : Nat, Below W0.heap.size W0 W ∧ vs 6 = .pointer (some ⟨l6, 0, none⟩) ∧ vs 7 = .pointer (some ⟨l7, 0, none⟩) ∧ vs 5 = .agg #[.int .i64 b.kind, .int .i64 b.var, .int .i64 b.n] ∧ W.rangeAt l6 0 [.int .i64 a.kind, .int .i64 a.var, .int .i64 a.n] ∧ W.there l7 0 3 ∧ l6 ≠ l7 ∧ W0.heap.size ≤ l6 ∧ W0.heap.size ≤ l7 ∧ l6 < W.heap.size ∧ l7 < W.heap.size
def confP (x : LitL) (p q : DoneL) (a b : ActL) : Bool := (p.t : Int) != q.t && ((!isL a && decide (x.vol ≤ a.var)) && ((!isL b && decide (x.vol ≤ b.var)) && ((a.var == b.var) && (isW a || isW b))))
structure CfW (w W : World) (g l6 l7 : Nat) (x : LitL) (tv : Value) (p q : DoneL) (a b : ActL) : Prop where
 hb : Below w.heap.size w W
 l0 : W.cell? ⟨g, 0, none⟩ = some (.int .i64 x.vars)
 l1 : W.cell? ⟨g, 1, none⟩ = some (.int .i64 x.vol)
 l2 : W.cell? ⟨g, 2, none⟩ = some (.int .i64 x.locks)
 l3 : W.cell? ⟨g, 3, none⟩ = some tv
 p0 : W.cell? ⟨w.heap.size, 0, none⟩ = some (.int .i64 p.t)
 q0 : W.cell? ⟨w.heap.size + 1, 0, none⟩ = some (.int .i64 q.t)
 a0 : W.cell? ⟨l6, 0, none⟩ = some (.int .i64 a.kind)
 a1 : W.cell? ⟨l6, 1, none⟩ = some (.int .i64 a.var)
 a2 : W.cell? ⟨l6, 2, none⟩ = some (.int .i64 a.n)
 b0 : W.cell? ⟨l7, 0, none⟩ = some (.int .i64 b.kind)
 b1 : W.cell? ⟨l7, 1, none⟩ = some (.int .i64 b.var)
 b2 : W.cell? ⟨l7, 2, none⟩ = some (.int .i64 b.n)
end Go.Proofs.YtknbchheoloaoaaGreat
