/- What is still to be asked for: a slice somewhere in a row of the call's own. -/
import Derived.Test.YtedpocgmfpaeeaaGlH
namespace Go.Proofs.Ytedpocgmfpaeeaa
set_option linter.unusedVariables false
open Go.RowKit

theorem setCells_grown (b : Nat) : ∀ (vs : List Value) (o : Nat) (w : World), w.grownBy (w.setCells b o vs) (some b)
  | [], o, w => ⟨rfl, rfl, rfl, Nat.le_refl _, fun _ _ _ => rfl⟩
  | v :: r, o, w => by
    rw [World.setCells]
    have h := setCells_grown b r (o + 1) (w.setCell ⟨b, o, none⟩ v)
    refine ⟨h.os, h.tape, h.output, by have := h.size; simpa [World.setCell] using this, fun k hk hne => ?_⟩
    rw [h.block k (by simpa [World.setCell] using hk) hne]
    exact Below.heap_setCell _ _ _ _ (fun e => hne (by rw [e]))
/-- The slice at cell o of block b, of capacity c, holds zs; its spare cells may be written. -/
structure TodoAt (B : Nat) (w : World) (b o c : Nat) (zs : List Int) : Prop where
  lo : B ≤ b
  hi : b < w.heap.size
  cap : zs.length ≤ c
  cells : ∀ j (h : j < zs.length), w.cell? ⟨b, o + j, none⟩ = some (.int .i64 zs[j])
  room : ∀ j, j < c → (w.cell? ⟨b, o + j, none⟩).isSome = true ∧ w.frozen? ⟨b, o + j, none⟩ = false
theorem TodoAt.kept {B : Nat} {w w' : World} {b o c : Nat} {zs : List Int} (h : TodoAt B w b o c zs) (hb : w'.heap[b]? = w.heap[b]?) (hs : w.heap.size ≤ w'.heap.size) : TodoAt B w' b o c zs := by
  have e1 : ∀ j, w'.cell? ⟨b, j, none⟩ = w.cell? ⟨b, j, none⟩ := fun j => World.cell?_of_block (w := w) hb
  have e2 : ∀ j, w'.frozen? ⟨b, j, none⟩ = w.frozen? ⟨b, j, none⟩ := fun j => World.frozen?_of_block (w := w) hb
  exact ⟨h.lo, Nat.lt_of_lt_of_le h.hi hs, h.cap, fun j hj => by rw [e1]; exact h.cells j hj, fun j hj => by rw [e1, e2]; exact h.room j hj⟩
theorem TodoAt.below {B : Nat} {w w' : World} {b o c : Nat} {zs : List Int} (h : TodoAt B w b o c zs) (hb : Below w.heap.size w w') : TodoAt B w' b o c zs := h.kept (hb.block b h.hi) hb.size
theorem TodoAt.grown {B : Nat} {w w' : World} {b o c : Nat} {zs : List Int} (h : TodoAt B w b o c zs) {row : Option Nat} (hg : w.grownBy w' row) (hne : some b ≠ row) : TodoAt B w' b o c zs := h.kept (hg.block b h.hi hne) hg.size
theorem TodoAt.mono {B B' : Nat} {w : World} {b o c : Nat} {zs : List Int} (h : TodoAt B w b o c zs) (hB : B' ≤ b) : TodoAt B' w b o c zs := ⟨hB, h.hi, h.cap, h.cells, h.room⟩
theorem TodoAt.of_own {B : Nat} {w : World} {g c n : Nat} {zs : List Int} (h : w.ownsRow B 2 1 (.slice (some ⟨g, 0, none⟩) n c) n (intsV zs)) : n = zs.length ∧ TodoAt B w g 0 c zs := by
  have hn : zs.length = n := by have := h.1; rw [intsV_length] at this; omega
  refine ⟨hn.symm, (World.ownsRow.lt h g rfl).1, (World.ownsRow.lt h g rfl).2, by have := own_cap h; omega, fun j hj => ?_, fun j hj => ⟨?_, ?_⟩⟩
  · rw [Nat.zero_add, World.ownsRow.cellAt h j (by omega)]
    simp [intsV, hj]
  · rcases h.2 with ⟨e, _⟩ | ⟨g', cap, cur, e, _, hg, _, _, hsz, _⟩
    · simp at e
    · simp only [Value.slice.injEq, Option.some.injEq, Addr.mk.injEq, and_true, true_and] at e
      obtain ⟨rfl, rfl⟩ := e
      rw [cell_of_row w g (0 + j) cur 2 (0, 0) hg]
      simp; omega
  · exact World.ownsRow.frozenAt h _
theorem TodoAt.tail {B : Nat} {w : World} {b o c : Nat} {z : Int} {zs : List Int} (h : TodoAt B w b o c (z :: zs)) : TodoAt B w b (o + 1) (c - 1) zs := by
  have hc := h.cap
  simp only [List.length_cons] at hc
  refine ⟨h.lo, h.hi, by omega, fun j hj => ?_, fun j hj => ?_⟩
  · have := h.cells (j + 1) (by simp; omega)
    rw [show o + 1 + j = o + (j + 1) by omega]
    simpa using this
  · rw [show o + 1 + j = o + (j + 1) by omega]
    exact h.room (j + 1) (by omega)
theorem TodoAt.none {B : Nat} {w : World} {b o c o' : Nat} {zs : List Int} (h : TodoAt B w b o c zs) : TodoAt B w b o' 0 [] := ⟨h.lo, h.hi, Nat.le_refl _, fun j hj => by simp at hj, fun j hj => by omega⟩
theorem wpList_append_todo {P : Program} {w : World} {ops : Array Oper} {rest : List Oper} {op : Oper} {a : Act} {Q : Exit → Act → World → Prop} (hgd : op.guard = none) (s x : Operand) (t : TypeId)
    (ho : op.op = .call { callee := .builtin .append, args := #[s, x], argTypes := #[t, t] })
    (i : TypeInfo) (ht : P.underlying t = some (.slice 2)) (hi : P.info? 2 = some i) (hz : i.zero = some (.int .i64 0)) (hsize : i.size = 1) (hby : i.bytes = 8)
    (B b o c : Nat) (zs : List Int) (hs : a.eval s = .slice (some ⟨b, o, none⟩) zs.length c) (hT : TodoAt B w b o c zs)
    (xv : Value) (ys : List Int) (hx : a.eval x = xv) (hsrc : SrcAt w 1 xv ys.length (intsV ys))
    (hB : B ≤ w.heap.size) (h63 : zs.length + ys.length ≤ 1000000000000)
    (h : ∀ b' o' c' w', TodoAt B w' b' o' c' (zs ++ ys) → w.grownBy w' (some b) → (b' = b ∨ w.heap.size ≤ b') → wpList P ops Q rest (a.put op.dst (.slice (some ⟨b', o', none⟩) (zs.length + ys.length) c')) w') :
    wpList P ops Q (op :: rest) a w := by
  rcases hsrc with ⟨e1, e2, e3⟩ | ⟨ad, cc, e1, hl, hc⟩
  · subst e1
    have e4 : ys = [] := List.eq_nil_of_length_eq_zero e2
    subst e4
    refine wpList_plain hgd fun K hK => ?_
    have hr : (Builtin.append_ #[t, t] op.type #[.slice (some ⟨b, o, none⟩) zs.length c, .slice none 0 0]).run P w = .ok (.slice (some ⟨b, o, none⟩) zs.length c) w := by
      simp [Builtin.append_, run_underlying ht, sizeOf, typeInfo, hi, Builtin.lenOf, Builtin.firstCells, storeCells, hT.cap]
    unfold Oper.wp execOp
    simp only [ho, resolve, invoke, builtin, Sem.run_bind, Sem.run_pure, Result.andThen_ok, List.map_toArray, List.map_cons, List.map_nil, hs, hx, hr]
    exact hK _ _ (h b o c w (by rw [List.append_nil]; exact hT) ⟨rfl, rfl, rfl, Nat.le_refl _, fun _ _ _ => rfl⟩ (.inl rfl))
  · subst e1
    refine wpList_append_arg w hgd s x t ho 2 i (.int .i64 0) 1 8 ht hi hz hsize hby rfl (by omega) b o zs.length c (intsV zs) hs (intsV_length _) (fun j u hj => ?_) ad ys.length cc (intsV ys) hx hl hc (intsV_one _) (fun hr j hj => ?_) (by unfold maxLen; omega) (by omega) (fun hr => ?_) (fun hr v' w' hown hg => ?_)
    · obtain ⟨hj1, hj2⟩ := List.getElem?_eq_some_iff.1 hj
      have hjl : j < zs.length := by rw [intsV_length] at hj1; omega
      rw [hT.cells j hjl, ← hj2]
      simp [intsV]
    · rw [intsV_length] at hj
      rw [show o + zs.length * 1 + j = o + (zs.length + j) by omega]
      exact hT.room (zs.length + j) (by omega)
    · have hsome : ∀ j, j < (intsV ys).length → (w.cell? ⟨b, o + zs.length * 1 + j, none⟩).isSome = true := fun j hj => by
        rw [intsV_length] at hj
        rw [show o + zs.length * 1 + j = o + (zs.length + j) by omega]
        exact (hT.room (zs.length + j) (by omega)).1
      refine h b o c _ ⟨hT.lo, by have := (setCells_grown b (intsV ys) (o + zs.length * 1) w).size; have := hT.hi; omega, by simp; omega, fun j hj => ?_, fun j hj => ⟨?_, ?_⟩⟩ (setCells_grown b _ _ w) (.inl rfl)
      · by_cases hjz : j < zs.length
        · rw [World.cell?_setCells_out b _ _ _ _ (fun _ _ => .inl (by show o + j < _; omega)), hT.cells j hjz]
          simp [hjz]
        · obtain ⟨k, rfl⟩ : ∃ k, j = zs.length + k := ⟨j - zs.length, by omega⟩
          have hk : k < ys.length := by simp at hj; omega
          have := World.cell?_setCells_in b (intsV ys) (o + zs.length * 1) w hsome k (by rw [intsV_length]; omega)
          rw [show o + (zs.length + k) = o + zs.length * 1 + k by omega, this]
          simp [intsV]
      · by_cases hjz : o + j < o + zs.length * 1 ∨ o + zs.length * 1 + (intsV ys).length ≤ o + j
        · rw [World.cell?_setCells_out b _ _ _ _ (fun _ _ => hjz)]
          exact (hT.room j hj).1
        · obtain ⟨k, rfl⟩ : ∃ k, j = zs.length + k := ⟨j - zs.length, by omega⟩
          have hk : k < (intsV ys).length := by omega
          rw [show o + (zs.length + k) = o + zs.length * 1 + k by omega, World.cell?_setCells_in b (intsV ys) (o + zs.length * 1) w hsome k hk]
          rfl
      · rw [World.frozen?_setCells]
        exact (hT.room j hj).2
    · obtain ⟨g, c', rfl⟩ := own_some hown (by omega)
      rw [← intsV_append] at hown
      have hg0 := (World.ownsRow.lt hown g rfl).1
      have hT' := (TodoAt.of_own hown).2
      exact h g 0 c' w' (hT'.mono (Nat.le_trans hB hg0)) ⟨hg.os, hg.tape, hg.output, hg.size, fun k hk _ => hg.block k hk (by simp)⟩ (.inr hg0)
end Go.Proofs.Ytedpocgmfpaeeaa
