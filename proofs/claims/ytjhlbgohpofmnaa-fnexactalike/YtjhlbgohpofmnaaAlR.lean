/- Three rows that a call owns. -/
import Derived.Test.YtjhlbgohpofmnaaAlM
import Derived.Maps.AppendAt
import Derived.Deep.LoopGhost
import Derived.Laws.OwnMore
namespace Go.Proofs.Ytjhlbgohpofmnaa
set_option linter.unusedVariables false
open Go.ChangeShapes Go.WideShapes Go.ChangeAt Go.RowKit

/-! ### Rows that a call owns, side by side -/
theorem own_kept {w w' : World} {base : Nat} {e : TypeId} {size : Nat} {v : Value} {n : Nat} {xs : List Value} (h : w.ownsRow base e size v n xs) (hk : ∀ g, v.ownBlock = some g → w'.heap[g]? = w.heap[g]?) : w'.ownsRow base e size v n xs := by
  refine ⟨h.1, ?_⟩
  rcases h.2 with h' | ⟨g, cap, cur, rfl, hb, hg, h1, h2, h3, h4⟩
  · exact .inl h'
  · exact .inr ⟨g, cap, cur, rfl, hb, by rw [hk g rfl]; exact hg, h1, h2, h3, h4⟩
theorem own_lt {w : World} {base : Nat} {e : TypeId} {size : Nat} {v : Value} {n : Nat} {xs : List Value} (h : w.ownsRow base e size v n xs) {g : Nat} (hg : v.ownBlock = some g) : base ≤ g ∧ g < w.heap.size := by
  rcases h.2 with ⟨rfl, _⟩ | ⟨g', cap, cur, rfl, hb, hh, _⟩
  · cases hg
  · have : g' = g := by simpa [Value.ownBlock] using hg
    subst this
    exact ⟨hb, (Array.getElem?_eq_some_iff.1 hh).1⟩
theorem own_alloc {w : World} {base : Nat} {e : TypeId} {size : Nat} {v : Value} {n : Nat} {xs : List Value} (h : w.ownsRow base e size v n xs) (o : Obj) : (w.alloc o).ownsRow base e size v n xs :=
  own_kept h (fun g hg => Below.heap_alloc _ _ _ (own_lt h hg).2)
theorem own_pop {w : World} {base : Nat} {e : TypeId} {g n cap : Nat} {xs : List Value} {y : Value} (h : w.ownsRow base e 1 (.slice (some ⟨g, 0, none⟩) (n + 1) cap) (n + 1) (xs ++ [y])) : w.ownsRow base e 1 (.slice (some ⟨g, 0, none⟩) n cap) n xs := by
  obtain ⟨h1, h2⟩ := h
  have hl : xs.length = n := by simpa using h1
  rcases h2 with ⟨h0, _⟩ | ⟨g', cap', cur, hv, hb, hh, hn, hc, hs, ht⟩
  · cases h0
  · cases hv
    refine ⟨by simpa using hl, .inr ⟨g, cap, cur, rfl, hb, hh, by omega, hc, hs, ?_⟩⟩
    have h3 : (cur.toList.take ((n + 1) * 1)).take (n * 1) = (xs ++ [y]).take (n * 1) := by rw [ht]
    rw [List.take_take, Nat.min_eq_left (by omega)] at h3
    rw [h3, Nat.mul_one, ← hl, List.take_left]
theorem own_form {w : World} {base : Nat} {e : TypeId} {size : Nat} {v : Value} {n : Nat} {xs : List Value} (h : w.ownsRow base e size v n xs) : ∃ a c, v = .slice a n c := by
  rcases h.2 with ⟨rfl, rfl⟩ | ⟨g, cap, cur, rfl, _⟩
  · exact ⟨_, _, rfl⟩
  · exact ⟨_, _, rfl⟩
theorem own_some {w : World} {base : Nat} {e : TypeId} {size : Nat} {v : Value} {n : Nat} {xs : List Value} (h : w.ownsRow base e size v n xs) (hn : 0 < n) : ∃ g c, v = .slice (some ⟨g, 0, none⟩) n c := by
  rcases h.2 with ⟨rfl, rfl⟩ | ⟨g, cap, cur, rfl, _⟩
  · omega
  · exact ⟨_, _, rfl⟩
theorem own_mono {w : World} {base base' : Nat} {e : TypeId} {size : Nat} {v : Value} {n : Nat} {xs : List Value} (h : w.ownsRow base e size v n xs) (hb : base' ≤ base) : w.ownsRow base' e size v n xs := by
  refine ⟨h.1, ?_⟩
  rcases h.2 with h' | ⟨g, cap, cur, hv, hg, h1, h2, h3, h4, h5⟩
  · exact .inl h'
  · exact .inr ⟨g, cap, cur, hv, by omega, h1, h2, h3, h4, h5⟩
theorem own_below {B : Nat} {w w' : World} {base : Nat} {e : TypeId} {size : Nat} {v : Value} {n : Nat} {xs : List Value} (h : w.ownsRow base e size v n xs) (hb : Below w.heap.size w w') : w'.ownsRow base e size v n xs :=
  own_kept h (fun g hg => hb.block _ (own_lt h hg).2)
theorem own_cap {w : World} {base : Nat} {e : TypeId} {size g n c : Nat} {xs : List Value} (h : w.ownsRow base e size (.slice (some ⟨g, 0, none⟩) n c) n xs) : n ≤ c := by
  rcases h.2 with ⟨h, _⟩ | ⟨g', cap, cur, hv, _, _, h1, _⟩
  · cases h
  · cases hv; exact h1
theorem nil_or_snoc {α : Type} (l : List α) : l = [] ∨ ∃ l' t, l = l' ++ [t] := by
  rcases List.eq_nil_or_concat l with h | ⟨l', t, h⟩
  · exact .inl h
  · exact .inr ⟨l', t, by rw [h, List.concat_eq_append]⟩
theorem elemI : ∃ i, Try.prog.info? 2 = some i ∧ i.zero = some (.int .i64 0) ∧ i.size = 1 ∧ i.bytes = 8 := by
  obtain ⟨i0, hi0⟩ : ∃ i, Try.prog.info? 2 = some i := Option.isSome_iff_exists.1 (by kernel_rfl)
  have hz : (Try.prog.info? 2).bind (·.zero) = some (.int .i64 0) := by kernel_rfl
  refine ⟨i0, hi0, ?_, ?_, ?_⟩
  · rw [hi0] at hz; exact hz
  · have : (Try.prog.info? 2).map (·.size) = some 1 := by kernel_rfl
    rw [hi0] at this; exact Option.some.inj this
  · have : (Try.prog.info? 2).map (·.bytes) = some 8 := by kernel_rfl
    rw [hi0] at this; exact Option.some.inj this

/-! ### Three rows of a call's own -/
def flatP : List (Int × Int) → List Int
  | [] => []
  | (p, q) :: l => p :: q :: flatP l
theorem flatP_append (l l' : List (Int × Int)) : flatP (l ++ l') = flatP l ++ flatP l' := by
  induction l with
  | nil => rfl
  | cons x l ih => obtain ⟨p, q⟩ := x; simp [flatP, ih]
theorem flatP_length (l : List (Int × Int)) : (flatP l).length = 2 * l.length := by
  induction l with
  | nil => rfl
  | cons x l ih => obtain ⟨p, q⟩ := x; simp [flatP, ih]; omega
structure RW3 (w wr : World) (gt gb : Nat) (there back : List Int) (v : Value) (todo : List Int) : Prop where
  hb : Below w.heap.size w wr
  own1 : wr.ownsRow w.heap.size 2 1 (.slice (some ⟨gt, 0, none⟩) there.length there.length) there.length (there.map (Value.int .i64))
  own2 : wr.ownsRow w.heap.size 2 1 (.slice (some ⟨gb, 0, none⟩) back.length back.length) back.length (back.map (Value.int .i64))
  own3 : wr.ownsRow w.heap.size 2 1 v todo.length (todo.map (Value.int .i64))
  ne : gt ≠ gb
  ap1 : v.ownBlock ≠ some gt
  ap2 : v.ownBlock ≠ some gb
theorem RW3.gt {w wr : World} {gt gb : Nat} {there back : List Int} {v : Value} {todo : List Int} (h : RW3 w wr gt gb there back v todo) : w.heap.size ≤ gt ∧ gt < wr.heap.size := own_lt h.own1 rfl
theorem RW3.gb {w wr : World} {gt gb : Nat} {there back : List Int} {v : Value} {todo : List Int} (h : RW3 w wr gt gb there back v todo) : w.heap.size ≤ gb ∧ gb < wr.heap.size := own_lt h.own2 rfl
theorem RW3.alloc {w wr : World} {gt gb : Nat} {there back : List Int} {v : Value} {todo : List Int} (h : RW3 w wr gt gb there back v todo) (o : Obj) : RW3 w (wr.alloc o) gt gb there back v todo :=
  ⟨h.hb.alloc h.hb.size o, own_alloc h.own1 o, own_alloc h.own2 o, own_alloc h.own3 o, h.ne, h.ap1, h.ap2⟩
theorem intAt {w : World} {base g n c : Nat} {zs : List Int} (h : w.ownsRow base 2 1 (.slice (some ⟨g, 0, none⟩) n c) n (zs.map (Value.int .i64))) (hn : n = zs.length) (j : Nat) (hj : j < zs.length) : w.cell? ⟨g, j, none⟩ = some (.int .i64 zs[j]) ∧ w.frozen? ⟨g, j, none⟩ = false := by
  subst hn
  refine ⟨?_, h.frozenAt j⟩
  rw [h.cellAt j (by omega)]; simp [hj]
theorem RW3.set1 {w wr : World} {gt gb : Nat} {there back : List Int} {v : Value} {todo : List Int} (h : RW3 w wr gt gb there back v todo) (j : Nat) (z : Int) : RW3 w (wr.setCell ⟨gt, j, none⟩ (.int .i64 z)) gt gb (there.set j z) back v todo := by
  obtain ⟨h1, h2⟩ := h.own1.stored j (.int .i64 z)
  refine ⟨h.hb.setCell (p := ⟨gt, j, none⟩) h.gt.1 _, ?_, own_kept h.own2 (fun g hg => h2.block g (own_lt h.own2 hg).2 (fun e => h.ne (by simp [Value.ownBlock] at hg e; omega))), own_kept h.own3 (fun g hg => h2.block g (own_lt h.own3 hg).2 (fun e => h.ap1 (by rw [hg, e]))), h.ne, h.ap1, h.ap2⟩
  rw [← List.map_set] at h1
  simpa using h1
theorem RW3.set2 {w wr : World} {gt gb : Nat} {there back : List Int} {v : Value} {todo : List Int} (h : RW3 w wr gt gb there back v todo) (j : Nat) (z : Int) : RW3 w (wr.setCell ⟨gb, j, none⟩ (.int .i64 z)) gt gb there (back.set j z) v todo := by
  obtain ⟨h1, h2⟩ := h.own2.stored j (.int .i64 z)
  refine ⟨h.hb.setCell (p := ⟨gb, j, none⟩) h.gb.1 _, own_kept h.own1 (fun g hg => h2.block g (own_lt h.own1 hg).2 (fun e => h.ne (by simp [Value.ownBlock] at hg e; omega))), ?_, own_kept h.own3 (fun g hg => h2.block g (own_lt h.own3 hg).2 (fun e => h.ap2 (by rw [hg, e]))), h.ne, h.ap1, h.ap2⟩
  rw [← List.map_set] at h1
  simpa using h1
theorem own_pop2 {w : World} {base : Nat} {e : TypeId} {g n cap : Nat} {xs : List Value} {y y' : Value} (h : w.ownsRow base e 1 (.slice (some ⟨g, 0, none⟩) (n + 2) cap) (n + 2) (xs ++ [y, y'])) : w.ownsRow base e 1 (.slice (some ⟨g, 0, none⟩) n cap) n xs := by
  have h1 : w.ownsRow base e 1 (.slice (some ⟨g, 0, none⟩) (n + 1) cap) (n + 1) (xs ++ [y]) := own_pop (y := y') (by simpa using h)
  exact own_pop h1
theorem RW3.pop {w wr : World} {gt gb : Nat} {there back : List Int} {g n c : Nat} {todo : List Int} {p q : Int} (h : RW3 w wr gt gb there back (.slice (some ⟨g, 0, none⟩) (n + 2) c) (todo ++ [p, q])) (hn : n = todo.length) : RW3 w wr gt gb there back (.slice (some ⟨g, 0, none⟩) n c) todo := by
  subst hn
  refine ⟨h.hb, h.own1, h.own2, own_pop2 (y := .int .i64 p) (y' := .int .i64 q) ?_, h.ne, h.ap1, h.ap2⟩
  have := h.own3
  simpa using this
theorem RW3.append {w wr w' : World} {gt gb : Nat} {there back : List Int} {v v' : Value} {todo news : List Int} (h : RW3 w wr gt gb there back v todo) (h1 : w'.ownsRow w.heap.size 2 1 v' (todo.length + news.length) (todo.map (Value.int .i64) ++ news.map (Value.int .i64))) (h2 : wr.grownBy w' v.ownBlock) (h3 : v'.ownBlock = v.ownBlock ∨ v'.ownBlock = some wr.heap.size) : RW3 w w' gt gb there back v' (todo ++ news) := by
  have a1 := h.gt.2
  have a2 := h.gb.2
  refine ⟨h.hb.grown h2 h.hb.size (fun j hj => (own_lt h.own3 hj).1), own_kept h.own1 (fun g hg => h2.block g (own_lt h.own1 hg).2 (fun e => h.ap1 (by rw [← e, ← hg]; rfl))), own_kept h.own2 (fun g hg => h2.block g (own_lt h.own2 hg).2 (fun e => h.ap2 (by rw [← e, ← hg]; rfl))), by simpa using h1, h.ne, fun e => ?_, fun e => ?_⟩
  · rcases h3 with q | q
    · exact h.ap1 (by rw [← q]; exact e)
    · rw [q] at e
      have e2 : wr.heap.size = gt := by simpa using e
      omega
  · rcases h3 with q | q
    · exact h.ap2 (by rw [← q]; exact e)
    · rw [q] at e
      have e2 : wr.heap.size = gb := by simpa using e
      omega
/-- From a world W on: rows as above; all that W had is as it was, but for the row of v0. -/
structure RWi (w W wr : World) (v0 : Value) (gt gb : Nat) (there back : List Int) (v : Value) (todo : List Int) : Prop where
  r : RW3 w wr gt gb there back v todo
  sz : W.heap.size ≤ wr.heap.size
  old : ∀ g, g < W.heap.size → some g ≠ v0.ownBlock → wr.heap[g]? = W.heap[g]?
  blk : v.ownBlock = v0.ownBlock ∨ ∃ g, v.ownBlock = some g ∧ W.heap.size ≤ g
theorem RWi.start {w W : World} {v : Value} {gt gb : Nat} {there back : List Int} {todo : List Int} (h : RW3 w W gt gb there back v todo) : RWi w W W v gt gb there back v todo := ⟨h, Nat.le_refl _, fun _ _ _ => rfl, .inl rfl⟩
theorem RWi.alloc {w W wr : World} {v0 v : Value} {gt gb : Nat} {there back : List Int} {todo : List Int} (h : RWi w W wr v0 gt gb there back v todo) (o : Obj) : RWi w W (wr.alloc o) v0 gt gb there back v todo :=
  ⟨h.r.alloc o, by have := h.sz; simp; omega, fun g hg hne => by rw [Below.heap_alloc _ _ _ (Nat.lt_of_lt_of_le hg h.sz)]; exact h.old g hg hne, h.blk⟩
theorem RWi.append {w W wr w' : World} {v0 v v' : Value} {gt gb : Nat} {there back : List Int} {todo news : List Int} (h : RWi w W wr v0 gt gb there back v todo) (h1 : w'.ownsRow w.heap.size 2 1 v' (todo.length + news.length) (todo.map (Value.int .i64) ++ news.map (Value.int .i64))) (h2 : wr.grownBy w' v.ownBlock) (h3 : v'.ownBlock = v.ownBlock ∨ v'.ownBlock = some wr.heap.size) : RWi w W w' v0 gt gb there back v' (todo ++ news) := by
  refine ⟨h.r.append h1 h2 h3, Nat.le_trans h.sz h2.size, fun g hg hne => ?_, ?_⟩
  · rw [h2.block g (Nat.lt_of_lt_of_le hg h.sz) (fun e => ?_)]
    · exact h.old g hg hne
    · rcases h.blk with q | ⟨g', q, hq⟩
      · exact hne (e.trans q)
      · rw [q] at e
        have : g = g' := by simpa using e
        omega
  · rcases h3 with q | q
    · rw [q]; exact h.blk
    · exact .inr ⟨_, q, h.sz⟩
theorem RWi.cell {w W wr : World} {v0 v : Value} {gt gb : Nat} {there back : List Int} {todo : List Int} (h : RWi w W wr v0 gt gb there back v todo) {g : Nat} (hg : g < W.heap.size) (hne : some g ≠ v0.ownBlock) (j : Nat) : wr.cell? ⟨g, j, none⟩ = W.cell? ⟨g, j, none⟩ := by
  have e := h.old g hg hne
  simp only [World.cell?, e]
end Go.Proofs.Ytjhlbgohpofmnaa
