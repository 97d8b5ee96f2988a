/- Rows that a call owns. -/
import Derived.Test.YtkpeimklcoggkaaRcE
import Derived.Maps.AppendAt
import Derived.Deep.LoopGhost
import Derived.Laws.OwnMore
namespace Go.Proofs.Ytkpeimklcoggkaa
set_option linter.unusedVariables false
open Go.ChangeShapes Go.WideShapes Go.ChangeAt Go.RowKit

/-! ### Rows that a call owns, side by side -/
theorem own_kept {w w' : World} {base : Nat} {e : TypeId} {size : Nat} {v : Value} {n : Nat} {xs : List Value} (h : w.ownsRow base e size v n xs) (hk : ∀ g, v.ownBlock = some g → w'.heap[g]? = w.heap[g]?) : w'.ownsRow base e size v n xs := by
  refine ⟨h.1, ?_⟩
  rcases h.2 with h' | ⟨g, cap, cur, rfl, hb, hg, h1, h2, h3, h4⟩
  · exact .inl h'
  · exact .inr ⟨g, cap, cur, rfl, hb, by rw [hk g rfl]; exact hg, h1, h2, h3, h4⟩
theorem own_lt {w : World} {base : Nat} {e : TypeId} {size : Nat} {v : Value} {n : Nat} {xs : List Value} (h : w.ownsRow base e size v n xs) {g : Nat} (hg : v.ownBlock = some g) : base ≤ g ∧ g < w.heap.size := by
  rcases h.2 with ⟨rfl, _⟩ | ⟨g', cap, cur, rfl, hb, hh, _⟩
  · cases hg
  · have : g' = g := by simpa [Value.ownBlock] using hg
    subst this
    exact ⟨hb, (Array.getElem?_eq_some_iff.1 hh).1⟩
theorem own_alloc {w : World} {base : Nat} {e : TypeId} {size : Nat} {v : Value} {n : Nat} {xs : List Value} (h : w.ownsRow base e size v n xs) (o : Obj) : (w.alloc o).ownsRow base e size v n xs :=
  own_kept h (fun g hg => Below.heap_alloc _ _ _ (own_lt h hg).2)
theorem own_pop {w : World} {base : Nat} {e : TypeId} {g n cap : Nat} {xs : List Value} {y : Value} (h : w.ownsRow base e 1 (.slice (some ⟨g, 0, none⟩) (n + 1) cap) (n + 1) (xs ++ [y])) : w.ownsRow base e 1 (.slice (some ⟨g, 0, none⟩) n cap) n xs := by
  obtain ⟨h1, h2⟩ := h
  have hl : xs.length = n := by simpa using h1
  rcases h2 with ⟨h0, _⟩ | ⟨g', cap', cur, hv, hb, hh, hn, hc, hs, ht⟩
  · cases h0
  · cases hv
    refine ⟨by simpa using hl, .inr ⟨g, cap, cur, rfl, hb, hh, by omega, hc, hs, ?_⟩⟩
    have h3 : (cur.toList.take ((n + 1) * 1)).take (n * 1) = (xs ++ [y]).take (n * 1) := by rw [ht]
    rw [List.take_take, Nat.min_eq_left (by omega)] at h3
    rw [h3, Nat.mul_one, ← hl, List.take_left]
theorem own_form {w : World} {base : Nat} {e : TypeId} {size : Nat} {v : Value} {n : Nat} {xs : List Value} (h : w.ownsRow base e size v n xs) : ∃ a c, v = .slice a n c := by
  rcases h.2 with ⟨rfl, rfl⟩ | ⟨g, cap, cur, rfl, _⟩
  · exact ⟨_, _, rfl⟩
  · exact ⟨_, _, rfl⟩
theorem own_some {w : World} {base : Nat} {e : TypeId} {size : Nat} {v : Value} {n : Nat} {xs : List Value} (h : w.ownsRow base e size v n xs) (hn : 0 < n) : ∃ g c, v = .slice (some ⟨g, 0, none⟩) n c := by
  rcases h.2 with ⟨rfl, rfl⟩ | ⟨g, cap, cur, rfl, _⟩
  · omega
  · exact ⟨_, _, rfl⟩
/-- Two rows of a call's own: what is marked (Booleans), what is to be looked at (numbers). -/
structure MkW (w wr : World) (gi : Nat) (inn : List Bool) (v : Value) (todo : List Int) : Prop where
  hb : Below w.heap.size w wr
  own5 : wr.ownsRow w.heap.size 4 1 (.slice (some ⟨gi, 0, none⟩) inn.length inn.length) inn.length (inn.map Value.bool)
  own6 : wr.ownsRow w.heap.size 2 1 v todo.length (todo.map (Value.int .i64))
  apart : v.ownBlock ≠ some gi
theorem MkW.alloc {w wr : World} {gi : Nat} {inn : List Bool} {v : Value} {todo : List Int} (h : MkW w wr gi inn v todo) (o : Obj) : MkW w (wr.alloc o) gi inn v todo :=
  ⟨h.hb.alloc h.hb.size o, own_alloc h.own5 o, own_alloc h.own6 o, h.apart⟩
theorem MkW.gi {w wr : World} {gi : Nat} {inn : List Bool} {v : Value} {todo : List Int} (h : MkW w wr gi inn v todo) : w.heap.size ≤ gi ∧ gi < wr.heap.size := own_lt h.own5 rfl
theorem MkW.inAt {w wr : World} {gi : Nat} {inn : List Bool} {v : Value} {todo : List Int} (h : MkW w wr gi inn v todo) (j : Nat) (hj : j < inn.length) : wr.cell? ⟨gi, j, none⟩ = some (.bool inn[j]) ∧ wr.frozen? ⟨gi, j, none⟩ = false := by
  refine ⟨?_, h.own5.frozenAt j⟩
  rw [h.own5.cellAt j (by omega)]; simp [hj]
theorem MkW.todoAt {w wr : World} {gi : Nat} {inn : List Bool} {g n c : Nat} {todo : List Int} (h : MkW w wr gi inn (.slice (some ⟨g, 0, none⟩) n c) todo) (hn : n = todo.length) (j : Nat) (hj : j < todo.length) : wr.cell? ⟨g, j, none⟩ = some (.int .i64 todo[j]) := by
  subst hn
  rw [h.own6.cellAt j (by omega)]; simp [hj]
theorem MkW.pop {w wr : World} {gi : Nat} {inn : List Bool} {g n c : Nat} {todo : List Int} {t : Int} (h : MkW w wr gi inn (.slice (some ⟨g, 0, none⟩) (n + 1) c) (todo ++ [t])) (hn : n = todo.length) : MkW w wr gi inn (.slice (some ⟨g, 0, none⟩) n c) todo := by
  subst hn
  refine ⟨h.hb, h.own5, own_pop (y := .int .i64 t) ?_, h.apart⟩
  have := h.own6
  simpa using this
theorem MkW.set {w wr : World} {gi : Nat} {inn : List Bool} {v : Value} {todo : List Int} (h : MkW w wr gi inn v todo) (j : Nat) (b : Bool) : MkW w (wr.setCell ⟨gi, j, none⟩ (.bool b)) gi (inn.set j b) v todo := by
  obtain ⟨h1, h2⟩ := h.own5.stored j (.bool b)
  refine ⟨h.hb.setCell (p := ⟨gi, j, none⟩) h.gi.1 _, ?_, own_kept h.own6 (fun g hg => h2.block g (own_lt h.own6 hg).2 (fun e => h.apart (by rw [hg, e]))), h.apart⟩
  rw [← List.map_set] at h1
  simpa using h1
theorem MkW.append {w wr w' : World} {gi : Nat} {inn : List Bool} {v v' : Value} {todo : List Int} {news : List Int} (h : MkW w wr gi inn v todo) (h1 : w'.ownsRow w.heap.size 2 1 v' (todo.length + news.length) (todo.map (Value.int .i64) ++ news.map (Value.int .i64))) (h2 : wr.grownBy w' v.ownBlock) (h3 : v'.ownBlock = v.ownBlock ∨ v'.ownBlock = some wr.heap.size) : MkW w w' gi inn v' (todo ++ news) := by
  refine ⟨h.hb.grown h2 h.hb.size (fun j hj => (own_lt h.own6 hj).1), own_kept h.own5 (fun g hg => h2.block g (own_lt h.own5 hg).2 (fun e => h.apart (by rw [← e, ← hg]; rfl))), by simpa using h1, fun e => ?_⟩
  rcases h3 with q | q
  · exact h.apart (by rw [← q]; exact e)
  · rw [q] at e
    have := h.gi.2
    have e2 : wr.heap.size = gi := by simpa using e
    omega
end Go.Proofs.Ytkpeimklcoggkaa
