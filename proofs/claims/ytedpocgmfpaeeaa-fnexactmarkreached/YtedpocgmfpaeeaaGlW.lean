/- The search of the specification in memory: where it stands, and its steps. -/
import Derived.Test.YtedpocgmfpaeeaaGlT
namespace Go.Proofs.Ytedpocgmfpaeeaa
set_option linter.unusedVariables false
open Go.RowKit Go.ChangeShapes Go.WideShapes Go.ChangeAt

/-- What the search may still do: each object not yet used counts itself and what it leads to. -/
def wtG : List GobL → List Bool → Nat
  | o :: objs, u :: us => (if u then 0 else 1 + (outG o).length) + wtG objs us
  | _, _ => 0
theorem wtG_set : ∀ {objs : List GobL} {us : List Bool} {k : Nat} (hk : k < objs.length) (hu : us[k]? = some false), wtG objs (us.set k true) + 1 + (outG objs[k]).length = wtG objs us
  | o :: objs, u :: us, 0, _, hu => by
    simp at hu
    subst hu
    simp [wtG]
    omega
  | o :: objs, u :: us, k + 1, hk, hu => by
    have := wtG_set (objs := objs) (us := us) (k := k) (by simpa using hk) (by simpa using hu)
    simp only [List.set_cons_succ, wtG, List.getElem_cons_succ]
    omega
  | o :: objs, [], k, _, hu => by simp at hu
theorem wtG_le : ∀ (objs : List GobL) (us : List Bool), (∀ o ∈ objs, o.small) → wtG objs us ≤ objs.length * 1048577
  | [], us, _ => by simp [wtG]
  | o :: objs, [], _ => by simp [wtG]
  | o :: objs, u :: us, h => by
    have h1 := wtG_le objs us fun o ho => h o (by simp [ho])
    have h2 : (outG o).length ≤ 1048576 := by
      have := h o (by simp)
      unfold GobL.small at this
      unfold outG
      split
      · simp; omega
      · exact this
    simp only [wtG, List.length_cons]
    split <;> omega
/-- The marks of the used objects. -/
structure UsedAt (w : World) (b : Nat) (us : List Bool) : Prop where
  hi : b < w.heap.size
  cells : ∀ j (h : j < us.length), w.cell? ⟨b, j, none⟩ = some (.bool us[j])
  free : ∀ j, j < us.length → w.frozen? ⟨b, j, none⟩ = false
theorem UsedAt.kept {w w' : World} {b : Nat} {us : List Bool} (h : UsedAt w b us) (hb : w'.heap[b]? = w.heap[b]?) (hs : w.heap.size ≤ w'.heap.size) : UsedAt w' b us :=
  ⟨Nat.lt_of_lt_of_le h.hi hs, fun j hj => (World.cell?_of_block (w := w) hb).trans (h.cells j hj), fun j hj => (World.frozen?_of_block (w := w) hb).trans (h.free j hj)⟩
theorem UsedAt.set {w : World} {b : Nat} {us : List Bool} (h : UsedAt w b us) {k : Nat} (hk : k < us.length) : UsedAt (w.setCell ⟨b, k, none⟩ (.bool true)) b (us.set k true) := by
  refine ⟨by simpa [World.setCell] using h.hi, fun j hj => ?_, fun j hj => by rw [World.frozen?_setCell]; exact h.free j (by simpa using hj)⟩
  have hj' : j < us.length := by simpa using hj
  have hsome : ∀ i, i < [Value.bool true].length → (w.cell? ⟨b, k + i, none⟩).isSome = true := fun i hi => by
    obtain rfl : i = 0 := by simp at hi; omega
    simp [h.cells k hk]
  rw [← setCells_one]
  by_cases e : j = k
  · subst e
    have := World.cell?_setCells_in b [Value.bool true] j w hsome 0 (by simp)
    simpa using this
  · rw [World.cell?_setCells_out b _ _ _ _ (fun _ _ => by simp; omega), h.cells j hj']
    rw [List.getElem_set_ne (by omega)]
/-- What the marks in memory weigh. -/
def boolAt : Option Value → Bool
  | some (.bool b) => b
  | _ => false
def wtW (objs : List GobL) (b : Nat) (w : World) : Nat := wtG objs ((List.range objs.length).map fun j => boolAt (w.cell? ⟨b, j, none⟩))
theorem wtW_eq {objs : List GobL} {b : Nat} {w : World} {us : List Bool} (h : UsedAt w b us) (hl : us.length = objs.length) : wtW objs b w = wtG objs us := by
  unfold wtW
  congr 1
  refine List.ext_getElem (by simp [hl]) fun j h1 h2 => ?_
  simp [h.cells j h2, boolAt]
/-- Where the search stands in memory. -/
structure LvW (w wr : World) (row : List Value) (ub tb to tc : Nat) (todo : List Int) (ob oc : Nat) (out : List Int) (us : List Bool) : Prop where
  hb : Below w.heap.size w wr
  box : wr.rangeAt w.heap.size 0 row
  bx : w.heap.size < wr.heap.size
  ul : w.heap.size < ub
  used : UsedAt wr ub us
  todo : TodoAt (w.heap.size + 1) wr tb to tc todo
  out : OutAt (w.heap.size + 1) wr (.slice (some ⟨ob, 0, none⟩) out.length oc) out
  d1 : tb ≠ ub
  d2 : ob ≠ ub
  d3 : tb ≠ ob
theorem LvW.hsz {w wr : World} {row : List Value} {ub tb to tc : Nat} {todo : List Int} {ob oc : Nat} {out : List Int} {us : List Bool} (h : LvW w wr row ub tb to tc todo ob oc out us) : w.heap.size ≤ wr.heap.size := h.hb.size
theorem LvW.on {w wr W : World} {row : List Value} {ub tb to tc : Nat} {todo : List Int} {ob oc : Nat} {out : List Int} {us : List Bool} (h : LvW w wr row ub tb to tc todo ob oc out us) (hW : Below wr.heap.size wr W) : LvW w W row ub tb to tc todo ob oc out us :=
  ⟨h.hb.trans (hW.mono h.hb.size), fun j v hv => (hW.cell (p := ⟨w.heap.size, 0 + j, none⟩) h.bx).trans (h.box j v hv), Nat.lt_of_lt_of_le h.bx hW.size, h.ul, h.used.kept (hW.block ub h.used.hi) hW.size, h.todo.below hW, h.out.below hW, h.d1, h.d2, h.d3⟩
theorem LvW.pop {w wr : World} {row : List Value} {ub tb to tc : Nat} {z : Int} {todo : List Int} {ob oc : Nat} {out : List Int} {us : List Bool} (h : LvW w wr row ub tb to tc (z :: todo) ob oc out us) : LvW w wr row ub tb (to + 1) (tc - 1) todo ob oc out us :=
  ⟨h.hb, h.box, h.bx, h.ul, h.used, h.todo.tail, h.out, h.d1, h.d2, h.d3⟩
theorem LvW.pop0 {w wr : World} {row : List Value} {ub tb to tc o' : Nat} {todo : List Int} {ob oc : Nat} {out : List Int} {us : List Bool} (h : LvW w wr row ub tb to tc todo ob oc out us) : LvW w wr row ub tb o' 0 [] ob oc out us :=
  ⟨h.hb, h.box, h.bx, h.ul, h.used, h.todo.none, h.out, h.d1, h.d2, h.d3⟩
theorem LvW.mark {w wr : World} {row : List Value} {ub tb to tc : Nat} {todo : List Int} {ob oc : Nat} {out : List Int} {us : List Bool} (h : LvW w wr row ub tb to tc todo ob oc out us) {k : Nat} (hk : k < us.length) : LvW w (wr.setCell ⟨ub, k, none⟩ (.bool true)) row ub tb to tc todo ob oc out (us.set k true) := by
  have hbk : ∀ g, g ≠ ub → (wr.setCell ⟨ub, k, none⟩ (.bool true)).heap[g]? = wr.heap[g]? := fun g hg => Below.heap_setCell _ _ _ _ hg
  have hs : wr.heap.size ≤ (wr.setCell ⟨ub, k, none⟩ (.bool true)).heap.size := by simp [World.setCell]
  have hul := h.ul
  exact ⟨h.hb.setCell (p := ⟨ub, k, none⟩) (Nat.le_of_lt h.ul) _, fun j v hv => (World.cell?_of_block (w := wr) (hbk w.heap.size (by omega))).trans (h.box j v hv), Nat.lt_of_lt_of_le h.bx hs, h.ul, h.used.set hk, h.todo.kept (hbk tb h.d1) hs, own_kept h.out (fun g hg => hbk g (by simp only [Value.ownBlock, Option.some.injEq] at hg; exact hg ▸ h.d2)), h.d1, h.d2, h.d3⟩
theorem LvW.add {w wr W : World} {row : List Value} {ub tb to tc : Nat} {todo : List Int} {ob oc : Nat} {out : List Int} {us : List Bool} (h : LvW w wr row ub tb to tc todo ob oc out us) (hW : Below wr.heap.size wr W) {g c : Nat} {out' : List Int} (ho : OutAt wr.heap.size W (.slice (some ⟨g, 0, none⟩) out'.length c) out') : LvW w W row ub tb to tc todo g c out' us := by
  have hg := (World.ownsRow.lt ho g rfl).1
  have h1 := h.used.hi
  have h2 := h.todo.hi
  have h3 := h.bx
  have h' := h.on hW
  exact ⟨h'.hb, h'.box, h'.bx, h'.ul, h'.used, h'.todo, own_mono ho (by omega), h'.d1, by omega, by omega⟩
theorem LvW.push {w wr W : World} {row : List Value} {ub tb to tc : Nat} {todo : List Int} {ob oc : Nat} {out : List Int} {us : List Bool} (h : LvW w wr row ub tb to tc todo ob oc out us) (hg : wr.grownBy W (some tb)) {b' o' c' : Nat} {todo' : List Int} (ht : TodoAt (w.heap.size + 1) W b' o' c' todo') (hb' : b' = tb ∨ wr.heap.size ≤ b') : LvW w W row ub b' o' c' todo' ob oc out us := by
  have h1 := h.used.hi
  have h3 := h.bx
  have h4 := (World.ownsRow.lt h.out ob rfl).2
  have h5 := h.todo.lo
  have hd1 := h.d1
  have hd3 := h.d3
  refine ⟨h.hb.grown hg h.hb.size (fun k hk => by injection hk with hk; omega), fun j v hv => (World.cell?_of_block (w := wr) (hg.block w.heap.size h3 (by simp; omega))).trans (h.box j v hv), Nat.lt_of_lt_of_le h3 hg.size, h.ul, h.used.kept (hg.block ub h1 (by simp; omega)) hg.size, ht, World.ownsRow.kept h.out hg (.inr (by simp [Value.ownBlock]; omega)), by omega, h.d2, by omega⟩
end Go.Proofs.Ytedpocgmfpaeeaa
