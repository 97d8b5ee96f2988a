/- The specification's heap: an op, what the walk of l14Do holds. -/
import Derived.Test.YtchcdlelaklnnaaKsL
import Derived.Deep.DeepCutAuto
import Derived.Deep.CutBlock
namespace Go.Proofs.Ytchcdlelaklnnaa
set_option linter.unusedVariables false
open Go.ChangeShapes Go.WideShapes Go.ChangeAt Go.RowKit

/-- Where an op is being done: its box, the answer's two boxes. -/
structure DoS (w W : World) (F G : Nat → Prop) (H : Nat) (s : StM) (ps fs : List Nat) (ov : Value) (R : Nat) (qv : Value) (bx : Nat) (op : OpM) (out : Array Value) (gv : Value) : Prop where
  sp : SpW W G H s ps fs ov R qv
  kp : Keep F w W
  sub : ∀ k, F k → G k
  fl : ∀ k, F k → k < w.heap.size
  g0 : G bx
  g1 : G (bx + 1)
  g2 : G (bx + 2)
  nF : ¬ F bx ∧ ¬ F (bx + 1) ∧ ¬ F (bx + 2)
  go : ∀ k, gv.ownBlock = some k → G k
  b0 : W.heap[bx]? = some (.cells #[.int .i64 op.kind, .int .i64 op.a, .int .i64 op.b, .int .i64 op.c] 27 (0, 0))
  b1 : W.heap[bx + 1]? = some (.cells #[.int .i64 0, .int .i64 0, .int .i64 0, .slice none 0 0] 43 (0, 0))
  b2 : W.heap[bx + 2]? = some (.cells out 43 (0, 0))
theorem DoS.keep {w W W' : World} {F G : Nat → Prop} {H : Nat} {s s' : StM} {ps fs ps' fs' : List Nat} {ov ov' : Value} {R : Nat} {qv qv' : Value} {bx : Nat} {op : OpM} {out : Array Value} {gv : Value} (h : DoS w W F G H s ps fs ov R qv bx op out gv) (hs : SpW W' G H s' ps' fs' ov' R qv') (hk : Keep G W W') : DoS w W' F G H s' ps' fs' ov' R qv' bx op out gv :=
  ⟨hs, h.kp.trans (hk.mono h.sub), h.sub, h.fl, h.g0, h.g1, h.g2, h.nF, h.go, (hk.block _ h.g0).trans h.b0, (hk.block _ h.g1).trans h.b1, (hk.block _ h.g2).trans h.b2⟩
theorem DoS.below {w W W' : World} {F G : Nat → Prop} {H : Nat} {s : StM} {ps fs : List Nat} {ov : Value} {R : Nat} {qv : Value} {bx : Nat} {op : OpM} {out : Array Value} {gv : Value} (h : DoS w W F G H s ps fs ov R qv bx op out gv) (hb : Below W.heap.size W W') : DoS w W' F G H s ps fs ov R qv bx op out gv := h.keep (h.sp.below hb) (Keep.of hb h.sp.lo.2.2)
/-- A cell of G's blocks changes: what the heap has does not. -/
theorem SpW.out {W : World} {G : Nat → Prop} {H R : Nat} {s : StM} {ps fs : List Nat} {ov qv : Value} (h : SpW W G H s ps fs ov R qv) {b : Nat} (hb : G b) (j : Nat) (v : Value) : SpW (W.setCell ⟨b, j, none⟩ v) G H s ps fs ov R qv := h.mv (fun k _ hn => ⟨set_other _ (fun e => hn (by rw [e]; exact hb)), hn⟩) fun k q => by have := h.lo.2.2 k q; simpa [World.setCell] using this
theorem DoS.set {w W : World} {F G : Nat → Prop} {H : Nat} {s : StM} {ps fs : List Nat} {ov : Value} {R : Nat} {qv : Value} {bx : Nat} {op : OpM} {out : Array Value} {gv : Value} (h : DoS w W F G H s ps fs ov R qv bx op out gv) (j : Nat) (v : Value) : DoS w (W.setCell ⟨bx + 2, j, none⟩ v) F G H s ps fs ov R qv bx op (out.setIfInBounds j v) gv :=
  ⟨h.sp.out h.g2 j v, h.kp.setCell (p := ⟨bx + 2, j, none⟩) h.nF.2.2 v, h.sub, h.fl, h.g0, h.g1, h.g2, h.nF, h.go, (set_other _ (by omega)).trans h.b0, (set_other _ (by omega)).trans h.b1, set_same _ h.b2⟩
theorem DoS.gone {w W W' : World} {F G : Nat → Prop} {H : Nat} {s s' : StM} {ps fs ps' fs' : List Nat} {ov ov' : Value} {R : Nat} {qv qv' : Value} {bx : Nat} {op : OpM} {out : Array Value} {g0 gv : Value} (h : DoS w W F G H s ps fs ov R qv bx op out g0) (hs : SpW W' (fun k => G k ∨ gv.ownBlock = some k) H s' ps' fs' ov' R qv') (hk : Keep G W W') : DoS w W' F (fun k => G k ∨ gv.ownBlock = some k) H s' ps' fs' ov' R qv' bx op out gv :=
  ⟨hs, h.kp.trans (hk.mono h.sub), fun k q => .inl (h.sub k q), h.fl, .inl h.g0, .inl h.g1, .inl h.g2, h.nF, fun k q => .inr q, (hk.block _ h.g0).trans h.b0, (hk.block _ h.g1).trans h.b1, (hk.block _ h.g2).trans h.b2⟩
/-- Behind the op's own doing. -/
def DoR (w : World) (F : Nat → Prop) (H : Nat) (s : StM) (R bx : Nat) (op : OpM) (W : World) : Prop :=
  ∃ (G : Nat → Prop) (ps fs : List Nat) (ov qv gv : Value), DoS w W F G H (doM s op) ps fs ov R qv bx op #[.int .i64 (codeM s op), .int .i64 0, .int .i64 0, gv] gv ∧ OutAt w.heap.size W gv (ansM s op).gone
theorem out_nil (B : Nat) (W : World) : OutAt B W (.slice none 0 0) [] := ⟨rfl, .inl ⟨rfl, rfl⟩⟩
theorem DoS.start {w : World} {F : Nat → Prop} {H : Nat} {s : StM} {ps fs : List Nat} {ov : Value} {R : Nat} {qv : Value} (h : SpW w F H s ps fs ov R qv) (op : OpM) :
    DoS w (((w.alloc (.cells #[.int .i64 op.kind, .int .i64 op.a, .int .i64 op.b, .int .i64 op.c] 27)).alloc (.cells #[.int .i64 0, .int .i64 0, .int .i64 0, .slice none 0 0] 43)).alloc (.cells #[.int .i64 0, .int .i64 0, .int .i64 0, .slice none 0 0] 43)) F (fun k => ((F k ∨ k = w.heap.size) ∨ k = w.heap.size + 1) ∨ k = w.heap.size + 2) H s ps fs ov R qv w.heap.size op #[.int .i64 0, .int .i64 0, .int .i64 0, .slice none 0 0] (.slice none 0 0) := by
  have h1 := h.boxed (.cells #[.int .i64 op.kind, .int .i64 op.a, .int .i64 op.b, .int .i64 op.c] 27)
  have h2 := h1.boxed (.cells #[.int .i64 0, .int .i64 0, .int .i64 0, .slice none 0 0] 43)
  have h3 := h2.boxed (.cells #[.int .i64 0, .int .i64 0, .int .i64 0, .slice none 0 0] 43)
  simp only [World.size_alloc] at h3
  have hb : Below w.heap.size w (((w.alloc (.cells #[.int .i64 op.kind, .int .i64 op.a, .int .i64 op.b, .int .i64 op.c] 27)).alloc (.cells #[.int .i64 0, .int .i64 0, .int .i64 0, .slice none 0 0] 43)).alloc (.cells #[.int .i64 0, .int .i64 0, .int .i64 0, .slice none 0 0] 43)) := below_on2 (below_1 _ _) (below_on2 (below_1 _ _) (below_1 _ _))
  have hF := h.lo.2.2
  refine ⟨h3, Keep.of hb hF, fun k q => .inl (.inl (.inl q)), hF, .inl (.inl (.inr rfl)), .inl (.inr rfl), .inr rfl, ⟨fun q => by have := hF _ q; omega, fun q => by have := hF _ q; omega, fun q => by have := hF _ q; omega⟩, fun k q => by simp [Value.ownBlock] at q, ?_, ?_, ?_⟩
  · rw [Below.heap_alloc _ _ _ (by rw [World.size_alloc, World.size_alloc]; omega), Below.heap_alloc _ _ _ (by rw [World.size_alloc]; omega)]
    exact heap_alloc_new _ _
  · rw [Below.heap_alloc _ _ _ (by rw [World.size_alloc, World.size_alloc]; omega)]
    have := heap_alloc_new (w.alloc (.cells #[.int .i64 op.kind, .int .i64 op.a, .int .i64 op.b, .int .i64 op.c] 27)) (.cells #[.int .i64 0, .int .i64 0, .int .i64 0, .slice none 0 0] 43)
    rwa [World.size_alloc] at this
  · have := heap_alloc_new ((w.alloc (.cells #[.int .i64 op.kind, .int .i64 op.a, .int .i64 op.b, .int .i64 op.c] 27)).alloc (.cells #[.int .i64 0, .int .i64 0, .int .i64 0, .slice none 0 0] 43)) (.cells #[.int .i64 0, .int .i64 0, .int .i64 0, .slice none 0 0] 43)
    rwa [World.size_alloc, World.size_alloc] at this
end Go.Proofs.Ytchcdlelaklnnaa

/- The program's marker in memory. -/
namespace Go.Proofs.Ytchcdlelaklnnaa
set_option linter.unusedVariables false
open Go.ChangeShapes Go.WideShapes Go.ChangeAt Go.RowKit

theorem setCells_grownM (b : Nat) : ∀ (vs : List Value) (o : Nat) (w : World), w.grownBy (w.setCells b o vs) (some b)
  | [], o, w => ⟨rfl, rfl, rfl, Nat.le_refl _, fun _ _ _ => rfl⟩
  | v :: r, o, w => by
    rw [World.setCells]
    have h := setCells_grownM b r (o + 1) (w.setCell ⟨b, o, none⟩ v)
    refine ⟨h.os, h.tape, h.output, by have := h.size; simpa [World.setCell] using this, fun k hk hne => ?_⟩
    rw [h.block k (by simpa [World.setCell] using hk) hne]
    exact Below.heap_setCell _ _ _ _ (fun e => hne (by rw [e]))
theorem setCells_tag (b : Nat) : ∀ (vs : List Value) (o : Nat) (w : World) (e : TypeId), (∃ cur, w.heap[b]? = some (.cells cur e (0, 0))) → ∃ cur, (w.setCells b o vs).heap[b]? = some (.cells cur e (0, 0))
  | [], o, w, e, h => h
  | v :: r, o, w, e, ⟨cur, h⟩ => by
    rw [World.setCells]
    exact setCells_tag b r (o + 1) _ e ⟨_, set_same v h⟩
/-- The slice at cell o of block b, of capacity c, holds vs; its spare cells may be written. -/
structure TodoV (w : World) (e : TypeId) (b o c : Nat) (vs : List Value) : Prop where
  tag : ∃ cur, w.heap[b]? = some (.cells cur e (0, 0))
  cap : vs.length ≤ c
  cells : ∀ j (h : j < vs.length), w.cell? ⟨b, o + j, none⟩ = some vs[j]
  room : ∀ j, j < c → (w.cell? ⟨b, o + j, none⟩).isSome = true ∧ w.frozen? ⟨b, o + j, none⟩ = false
theorem TodoV.hi {w : World} {e : TypeId} {b o c : Nat} {vs : List Value} (h : TodoV w e b o c vs) : b < w.heap.size := by
  obtain ⟨cur, q⟩ := h.tag
  exact lt_of q
theorem TodoV.kept {w w' : World} {e : TypeId} {b o c : Nat} {vs : List Value} (h : TodoV w e b o c vs) (hb : w'.heap[b]? = w.heap[b]?) : TodoV w' e b o c vs := by
  have e1 : ∀ j, w'.cell? ⟨b, j, none⟩ = w.cell? ⟨b, j, none⟩ := fun j => World.cell?_of_block (w := w) hb
  have e2 : ∀ j, w'.frozen? ⟨b, j, none⟩ = w.frozen? ⟨b, j, none⟩ := fun j => World.frozen?_of_block (w := w) hb
  obtain ⟨cur, q⟩ := h.tag
  exact ⟨⟨cur, hb.trans q⟩, h.cap, fun j hj => by rw [e1]; exact h.cells j hj, fun j hj => by rw [e1, e2]; exact h.room j hj⟩
theorem TodoV.of_own {B : Nat} {w : World} {e : TypeId} {g c n : Nat} {vs : List Value} (h : w.ownsRow B e 1 (.slice (some ⟨g, 0, none⟩) n c) n vs) : n = vs.length ∧ TodoV w e g 0 c vs := by
  have hn : vs.length = n := by have := h.1; omega
  refine ⟨hn.symm, ?_⟩
  rcases h.2 with ⟨q, _⟩ | ⟨g', cap, cur, q, _, hg, h1, _, hsz, htk⟩
  · simp at q
  · simp only [Value.slice.injEq, Option.some.injEq, Addr.mk.injEq, and_true, true_and] at q
    obtain ⟨rfl, rfl⟩ := q
    refine ⟨⟨cur, hg⟩, by omega, fun j hj => ?_, fun j hj => ⟨?_, free_of hg⟩⟩
    · rw [Nat.zero_add, World.ownsRow.cellAt h j (by omega)]
      simp [hj]
    · rw [cell_of_row w g (0 + j) cur e (0, 0) hg]
      simp
      omega
theorem TodoV.tail {w : World} {e : TypeId} {b o c : Nat} {v : Value} {vs : List Value} (h : TodoV w e b o c (v :: vs)) : TodoV w e b (o + 1) (c - 1) vs := by
  have hc := h.cap
  simp only [List.length_cons] at hc
  refine ⟨h.tag, by omega, fun j hj => ?_, fun j hj => ?_⟩
  · have := h.cells (j + 1) (by simp; omega)
    rw [show o + 1 + j = o + (j + 1) by omega]
    simpa using this
  · rw [show o + 1 + j = o + (j + 1) by omega]
    exact h.room (j + 1) (by omega)
theorem TodoV.none {w : World} {e : TypeId} {b o c : Nat} {vs : List Value} (h : TodoV w e b o c vs) (o' : Nat) : TodoV w e b o' 0 [] := ⟨h.tag, Nat.le_refl _, fun j hj => by simp at hj, fun j hj => by omega⟩
/-- A queue's slice. -/
def QAt (w : World) (e : TypeId) (v : Value) (vs : List Value) : Prop := (v = .slice none 0 0 ∧ vs = []) ∨ ∃ b o c, v = .slice (some ⟨b, o, none⟩) vs.length c ∧ TodoV w e b o c vs
theorem QAt.form {w : World} {e : TypeId} {v : Value} {vs : List Value} (h : QAt w e v vs) : ∃ a c, v = .slice a vs.length c := by
  rcases h with ⟨rfl, rfl⟩ | ⟨b, o, c, rfl, _⟩
  · exact ⟨_, _, rfl⟩
  · exact ⟨_, _, rfl⟩
theorem QAt.kept {w w' : World} {e : TypeId} {v : Value} {vs : List Value} (h : QAt w e v vs) (hk : ∀ k, v.ownBlock = some k → w'.heap[k]? = w.heap[k]?) : QAt w' e v vs := by
  rcases h with h | ⟨b, o, c, rfl, h⟩
  · exact .inl h
  · exact .inr ⟨b, o, c, rfl, h.kept (hk b rfl)⟩
theorem QAt.tag {w : World} {e : TypeId} {v : Value} {vs : List Value} (h : QAt w e v vs) {k : Nat} (hk : v.ownBlock = some k) : ∃ cur, w.heap[k]? = some (.cells cur e (0, 0)) := by
  rcases h with ⟨rfl, _⟩ | ⟨b, o, c, rfl, h⟩
  · simp [Value.ownBlock] at hk
  · simp only [Value.ownBlock, Option.some.injEq] at hk
    subst hk
    exact h.tag
theorem wpList_append_q {P : Program} {w : World} {ops : Array Oper} {rest : List Oper} {op : Oper} {a : Act} {Q : Exit → Act → World → Prop} (hgd : op.guard = none) (s x : Operand) (t : TypeId)
    (ho : op.op = .call { callee := .builtin .append, args := #[s, x], argTypes := #[t, t] })
    (e : TypeId) (i : TypeInfo) (z : Value) (ht : P.underlying t = some (.slice e)) (hi : P.info? e = some i) (hz : i.zero = some z) (hsize : i.size = 1) (hzs : z.cells.size = 1) (hby : i.bytes = 8)
    (v : Value) (vs : List Value) (hs : a.eval s = v) (hT : QAt w e v vs) (h1 : ∀ u ∈ vs, u.oneCell' = true)
    (xb : Nat) (xc : Nat) (u : Value) (hx : a.eval x = .slice (some ⟨xb, 0, none⟩) 1 xc) (hxc : w.cell? ⟨xb, 0, none⟩ = some u) (hu : u.oneCell' = true)
    (h63 : vs.length ≤ 1000000000000)
    (h : ∀ v' w', QAt w' e v' (vs ++ [u]) → w.grownBy w' v.ownBlock → (v'.ownBlock = v.ownBlock ∨ ∃ b, v'.ownBlock = some b ∧ w.heap.size ≤ b) → v' ≠ .slice none 0 0 → wpList P ops Q rest (a.put op.dst v') w') :
    wpList P ops Q (op :: rest) a w := by
  have hsrc : ∀ j v, [u][j]? = some v → w.cell? ((⟨xb, 0, none⟩ : Addr).add j) = some v := fun j v hj => by
    have hj0 : j = 0 := by have := (List.getElem?_eq_some_iff.1 hj).1; simp at this; omega
    subst hj0
    simp at hj
    subst hj
    rw [Addr.add_lit]
    exact hxc
  rcases hT with ⟨rfl, rfl⟩ | ⟨b, o, c, rfl, hT⟩
  · refine wpList_append_own_at w hgd s x t ho w.heap.size e i z 1 8 ht hi hz hsize hby hzs (by omega) (.slice .none 0 0) 0 [] hs ⟨rfl, .inl ⟨rfl, rfl⟩⟩ ⟨xb, 0, none⟩ 1 xc [u] hx rfl hsrc (by simpa using hu) (by unfold maxLen; omega) (by omega) (Nat.le_refl _) (fun v' w' a1 a2 _ a4 => ?_)
    obtain ⟨g, c', rfl⟩ := own_some a1 (by omega)
    have hg0 := (World.ownsRow.lt a1 g rfl).1
    refine h _ w' (.inr ⟨g, 0, c', rfl, (TodoV.of_own a1).2⟩) a2 (.inr ⟨g, rfl, hg0⟩) (by simp)
  · refine wpList_append_arg w hgd s x t ho e i z 1 8 ht hi hz hsize hby hzs (by omega) b o vs.length c vs hs (by omega) (fun j v hj => ?_) ⟨xb, 0, none⟩ 1 xc [u] hx rfl hsrc (by simpa using hu) (fun hr j hj => ?_) (by unfold maxLen; omega) (by omega) (fun hr => ?_) (fun hr v' w' hown hg => ?_)
    · obtain ⟨hj1, hj2⟩ := List.getElem?_eq_some_iff.1 hj
      rw [hT.cells j hj1, ← hj2]
    · have hj0 : j = 0 := by simp at hj; omega
      subst hj0
      rw [show o + vs.length * 1 + 0 = o + vs.length by omega]
      exact hT.room vs.length (by omega)
    · have hroom := hT.room vs.length (by omega)
      have hT' : TodoV (w.setCells b (o + vs.length * 1) [u]) e b o c (vs ++ [u]) := by
        rw [show o + vs.length * 1 = o + vs.length by omega]
        have hone : w.setCells b (o + vs.length) [u] = w.setCell ⟨b, o + vs.length, none⟩ u := rfl
        rw [hone]
        obtain ⟨cur, hcur⟩ := hT.tag
        refine ⟨⟨_, set_same u hcur⟩, by simp; omega, fun j hj => ?_, fun j hj => ?_⟩
        · by_cases hjz : j < vs.length
          · rw [World.cell?_setCell_other _ _ _ _ (fun q => by injection q with _ q2; omega), hT.cells j hjz]
            simp [hjz]
          · have ej : j = vs.length := by simp at hj; omega
            subst ej
            obtain ⟨q, hq⟩ := Option.isSome_iff_exists.1 hroom.1
            rw [World.cell?_setCell_same _ _ _ hq]
            simp
        · obtain ⟨r1, r2⟩ := hT.room j hj
          refine ⟨?_, by rw [World.frozen?_setCell]; exact r2⟩
          by_cases hjz : j = vs.length
          · subst hjz
            obtain ⟨q, hq⟩ := Option.isSome_iff_exists.1 hroom.1
            rw [World.cell?_setCell_same _ _ _ hq]
            rfl
          · rw [World.cell?_setCell_other _ _ _ _ (fun q => by injection q with _ q2; omega)]
            exact r1
      have := h (.slice (some ⟨b, o, none⟩) (vs.length + 1) c) _ (.inr ⟨b, o, c, by simp, hT'⟩) (setCells_grownM b _ _ w) (.inl rfl) (by simp)
      exact this
    · obtain ⟨g, c', rfl⟩ := own_some hown (by omega)
      have hg0 := (World.ownsRow.lt hown g rfl).1
      refine h _ w' (.inr ⟨g, 0, c', by simp, (TodoV.of_own hown).2⟩) ⟨hg.os, hg.tape, hg.output, hg.size, fun k hk _ => hg.block k hk (by simp)⟩ (.inr ⟨g, rfl, hg0⟩) (by simp)
/-- All objects ever made, by id; nil for 0 and for those that are gone. -/
def tabP (ps : List Nat) (obs : List ObM) : List Value := .pointer none :: (List.range obs.length).map fun i => if ((obs[i]?).map ObM.there).getD false then .pointer (some ⟨ps.getD i 0, 0, none⟩) else .pointer none
theorem tabP_length (ps : List Nat) (obs : List ObM) : (tabP ps obs).length = obs.length + 1 := by simp [tabP]
theorem tabP_congr {ps : List Nat} {a b : List ObM} (hl : a.length = b.length) (h : ∀ i : Nat, (a[i]?).map ObM.there = (b[i]?).map ObM.there) : tabP ps a = tabP ps b := by
  unfold tabP
  rw [hl]
  congr 1
  refine List.map_congr_left fun i _ => ?_
  rw [h i]
theorem tabP_one (ps : List Nat) (obs : List ObM) : ∀ u ∈ tabP ps obs, u.oneCell' = true := fun u hu => by
  rcases List.mem_cons.1 hu with rfl | hu
  · rfl
  · obtain ⟨i, _, rfl⟩ := List.mem_map.1 hu
    split <;> rfl
theorem tabP_some {ps : List Nat} {obs : List ObM} {z : Int} {o : ObM} (h : getM obs z = some o) : (tabP ps obs)[z.toNat]? = some (.pointer (some ⟨ps.getD (z.toNat - 1) 0, 0, none⟩)) := by
  obtain ⟨h1, h2, h3⟩ := getM_some.1 h
  have hl := (List.getElem?_eq_some_iff.1 h2).1
  obtain ⟨m, hm⟩ : ∃ m, z.toNat = m + 1 := ⟨z.toNat - 1, by omega⟩
  rw [hm] at h2 hl ⊢
  simp only [Nat.add_sub_cancel] at h2 hl ⊢
  have e := (List.getElem?_eq_some_iff.1 h2).2
  simp [tabP, hl, e, h3]
theorem tabP_none {ps : List Nat} {obs : List ObM} {z : Int} (h : getM obs z = none) (h0 : 0 ≤ z) (hl : z ≤ (obs.length : Int)) : (tabP ps obs)[z.toNat]? = some (.pointer none) := by
  by_cases hz : z = 0
  · subst hz; rfl
  obtain ⟨m, hm⟩ : ∃ m, z.toNat = m + 1 := ⟨z.toNat - 1, by omega⟩
  have hml : m < obs.length := by omega
  rw [hm]
  unfold getM at h
  rw [if_pos (by omega), hm, Nat.add_sub_cancel, List.getElem?_eq_getElem hml] at h
  have ht : obs[m].there = false := by
    cases q : obs[m].there with
    | false => rfl
    | true => simp [q] at h
  simp [tabP, hml, ht]
def rowP (ps : List Nat) (row : List Int) : List Value := row.map fun z => .pointer (some ⟨ps.getD (z.toNat - 1) 0, 0, none⟩)
theorem rowP_one (ps : List Nat) (row : List Int) : ∀ u ∈ rowP ps row, u.oneCell' = true := fun u hu => by
  obtain ⟨i, _, rfl⟩ := List.mem_map.1 hu
  rfl
/-- The cells of a marker. -/
def mkC (s : StM) (ov tv : Value) : Array Value := (#[.int .i64 s.mode, ov] ++ (intsV s.roots).toArray ++ #[.bool s.cyc, tv])
/-- The program's marker in memory. -/
structure ImW (w : World) (F : Nat → Prop) (M : Nat) (s : StM) (ps fs : List Nat) (ov tv : Value) : Prop where
  ob : ObsAt w F ps fs s.obs
  blk : w.heap[M]? = some (.cells (mkC s ov tv) 69 (0, 0))
  ow : w.ownsRow 0 62 1 ov (s.obs.length + 1) (tabP ps s.obs)
  ro : QAt w 62 tv (rowP ps s.row)
  ne : ∀ k, ov.ownBlock = some k → tv.ownBlock ≠ some k
  rl : s.roots.length = 8
  lo : ¬ F M ∧ ∀ k, F k → k < w.heap.size
  fo : (∀ k, ov.ownBlock = some k → ¬ F k) ∧ ∀ k, tv.ownBlock = some k → ¬ F k
theorem roots8 {s : StM} (h : s.roots.length = 8) : ∃ r0 r1 r2 r3 r4 r5 r6 r7, s.roots = [r0, r1, r2, r3, r4, r5, r6, r7] := by
  match hr : s.roots, h with
  | [r0, r1, r2, r3, r4, r5, r6, r7], _ => exact ⟨_, _, _, _, _, _, _, _, rfl⟩
theorem ImW.mode {w : World} {F : Nat → Prop} {M : Nat} {s : StM} {ps fs : List Nat} {ov tv : Value} (h : ImW w F M s ps fs ov tv) : w.cell? ⟨M, 0, none⟩ = some (.int .i64 s.mode) ∧ w.cell? ⟨M, 1, none⟩ = some ov ∧ w.cell? ⟨M, 10, none⟩ = some (.bool s.cyc) ∧ w.cell? ⟨M, 11, none⟩ = some tv ∧ (∀ j (hj : j < 8), w.cell? ⟨M, 2 + j, none⟩ = some (.int .i64 (s.roots[j]'(by rw [h.rl]; exact hj)))) ∧ ∀ j, w.frozen? ⟨M, j, none⟩ = false := by
  obtain ⟨r0, r1, r2, r3, r4, r5, r6, r7, e⟩ := roots8 h.rl
  have hb := h.blk
  unfold mkC at hb
  refine ⟨cell_of hb (by simp [e, intsV]), cell_of hb (by simp [e, intsV]), cell_of hb (by simp [e, intsV]), cell_of hb (by simp [e, intsV]), fun j hj => cell_of hb ?_, fun j => free_of hb⟩
  have hr : s.roots[j]? = some (s.roots[j]'(by rw [h.rl]; exact hj)) := List.getElem?_eq_getElem _
  rw [Array.getElem?_append_left (by simp [intsV, h.rl]; omega), Array.getElem?_append_right (by simp)]
  simp [intsV, hr]
end Go.Proofs.Ytchcdlelaklnnaa

/- The program's marker in memory: how it changes. -/
namespace Go.Proofs.Ytchcdlelaklnnaa
set_option linter.unusedVariables false
open Go.ChangeShapes Go.WideShapes Go.ChangeAt Go.RowKit

theorem ImW.ltO {w : World} {F : Nat → Prop} {M : Nat} {s : StM} {ps fs : List Nat} {ov tv : Value} (h : ImW w F M s ps fs ov tv) {k : Nat} (q : ov.ownBlock = some k) : k < w.heap.size ∧ ∃ cur, w.heap[k]? = some (.cells cur 62 (0, 0)) := by
  obtain ⟨cur, b⟩ := own_tag h.ow q
  exact ⟨lt_of b, cur, b⟩
theorem ImW.ltT {w : World} {F : Nat → Prop} {M : Nat} {s : StM} {ps fs : List Nat} {ov tv : Value} (h : ImW w F M s ps fs ov tv) {k : Nat} (q : tv.ownBlock = some k) : k < w.heap.size ∧ ∃ cur, w.heap[k]? = some (.cells cur 62 (0, 0)) := by
  obtain ⟨cur, b⟩ := h.ro.tag q
  exact ⟨lt_of b, cur, b⟩
/-- What others have changes; what they have is another set. -/
theorem ImW.mv {w w' : World} {F G : Nat → Prop} {M : Nat} {s : StM} {ps fs : List Nat} {ov tv : Value} (h : ImW w F M s ps fs ov tv) (hk : ∀ k, k < w.heap.size → ¬ F k → w'.heap[k]? = w.heap[k]? ∧ ¬ G k) (hG : ∀ k, G k → k < w'.heap.size) : ImW w' G M s ps fs ov tv := by
  have ho : ∀ k, ov.ownBlock = some k → w'.heap[k]? = w.heap[k]? ∧ ¬ G k := fun k q => hk k (h.ltO q).1 (h.fo.1 k q)
  have hq : ∀ k, tv.ownBlock = some k → w'.heap[k]? = w.heap[k]? ∧ ¬ G k := fun k q => hk k (h.ltT q).1 (h.fo.2 k q)
  exact ⟨h.ob.mv fun k q => hk k (h.ob.lt q).1 (h.ob.lt q).2, (hk _ (lt_of h.blk) h.lo.1).1.trans h.blk, own_kept h.ow fun k q => (ho k q).1, h.ro.kept fun k q => (hq k q).1, h.ne, h.rl, ⟨(hk _ (lt_of h.blk) h.lo.1).2, hG⟩, ⟨fun k q => (ho k q).2, fun k q => (hq k q).2⟩⟩
theorem ImW.below {w w' : World} {F : Nat → Prop} {M : Nat} {s : StM} {ps fs : List Nat} {ov tv : Value} (h : ImW w F M s ps fs ov tv) (hb : Below w.heap.size w w') : ImW w' F M s ps fs ov tv := h.mv (fun k hk hn => ⟨hb.block k hk, hn⟩) fun k q => Nat.lt_of_lt_of_le (h.lo.2 k q) hb.size
theorem ImW.boxed {w : World} {F : Nat → Prop} {M : Nat} {s : StM} {ps fs : List Nat} {ov tv : Value} (h : ImW w F M s ps fs ov tv) (ob : Obj) : ImW (w.alloc ob) (fun k => F k ∨ k = w.heap.size) M s ps fs ov tv := h.mv (fun k hk hn => ⟨Below.heap_alloc _ _ _ hk, fun q => by
  rcases q with q | q
  · exact hn q
  · omega⟩) fun k q => by
  rw [World.size_alloc]
  rcases q with q | q
  · have := h.lo.2 k q; omega
  · omega
theorem ImW.unbox {w : World} {F G : Nat → Prop} {M : Nat} {s : StM} {ps fs : List Nat} {ov tv : Value} (h : ImW w G M s ps fs ov tv) (hG : ∀ k, F k → G k) : ImW w F M s ps fs ov tv := h.mv (fun k _ hn => ⟨rfl, fun q => hn (hG k q)⟩) fun k q => h.lo.2 k (hG k q)
/-- More is kept from it. -/
theorem ImW.fence {w : World} {F : Nat → Prop} {M : Nat} {s : StM} {ps fs : List Nat} {ov tv : Value} (h : ImW w F M s ps fs ov tv) (X : Nat → Prop) (hX : ∀ k, X k → k < w.heap.size) (h1 : ¬ X M) (h2 : ∀ p ∈ ps, ¬ X p) (h3 : ∀ f ∈ fs, ¬ X f) (h4 : ∀ k, ov.ownBlock = some k → ¬ X k) (h5 : ∀ k, tv.ownBlock = some k → ¬ X k) : ImW w (fun k => F k ∨ X k) M s ps fs ov tv :=
  ⟨h.ob.mv fun k q => ⟨rfl, fun r => by
      rcases r with r | r
      · exact (h.ob.lt q).2 r
      · rcases q with q | q
        · exact h2 k q r
        · exact h3 k q r⟩, h.blk, h.ow, h.ro, h.ne, h.rl, ⟨fun r => by
      rcases r with r | r
      · exact h.lo.1 r
      · exact h1 r, fun k q => by
      rcases q with q | q
      · exact h.lo.2 k q
      · exact hX k q⟩, ⟨fun k q r => by
      rcases r with r | r
      · exact h.fo.1 k q r
      · exact h4 k q r, fun k q r => by
      rcases r with r | r
      · exact h.fo.2 k q r
      · exact h5 k q r⟩⟩
/-- Only the marker's own block changes. -/
theorem ImW.head {w : World} {F : Nat → Prop} {M : Nat} {s t : StM} {ps fs : List Nat} {ov tv tv' : Value} (h : ImW w F M s ps fs ov tv) (j : Nat) (v : Value) (ho : t.obs = s.obs) (hr : t.roots.length = 8) (hc : (mkC s ov tv).setIfInBounds j v = mkC t ov tv') (hq : QAt w 62 tv' (rowP ps t.row)) (hn : ∀ k, tv'.ownBlock = some k → tv.ownBlock = some k) : ImW (w.setCell ⟨M, j, none⟩ v) F M t ps fs ov tv' := by
  have hM : ∀ k cs ty, w.heap[k]? = some (.cells cs ty (0, 0)) → ty ≠ 69 → k ≠ M := fun k cs ty b c => tag_ne b h.blk c
  refine ⟨?_, ?_, ?_, hq.kept fun k q => ?_, fun k q r => h.ne k q (hn k r), hr, ⟨h.lo.1, fun k q => by have := h.lo.2 k q; simpa [World.setCell] using this⟩, ⟨h.fo.1, fun k q => h.fo.2 k (hn k q)⟩⟩
  · rw [ho]
    exact h.ob.kept fun k cs ty b c => set_other _ (hM k cs ty b (by rcases c with c | c; rw [c]; decide; rw [c.1]; decide))
  · rw [set_same _ h.blk, hc]
  · rw [ho]
    exact own_kept h.ow fun k q => by
      obtain ⟨_, cur, b⟩ := h.ltO q
      exact set_other _ (hM k cur 62 b (by decide))
  · obtain ⟨_, cur, b⟩ := h.ltT (hn k q)
    exact set_other _ (hM k cur 62 b (by decide))
theorem ImW.flag {w : World} {F : Nat → Prop} {M : Nat} {s : StM} {ps fs : List Nat} {ov tv : Value} (h : ImW w F M s ps fs ov tv) (b : Bool) : ImW (w.setCell ⟨M, 10, none⟩ (.bool b)) F M { s with cyc := b } ps fs ov tv ∧ Keep F w (w.setCell ⟨M, 10, none⟩ (.bool b)) := by
  obtain ⟨r0, r1, r2, r3, r4, r5, r6, r7, e⟩ := roots8 h.rl
  exact ⟨h.head 10 _ rfl h.rl (by simp [mkC, e, intsV]) h.ro fun k q => q, (Keep.refl _ _).setCell (p := ⟨M, 10, none⟩) h.lo.1 _⟩
theorem ImW.setRoot {w : World} {F : Nat → Prop} {M : Nat} {s : StM} {ps fs : List Nat} {ov tv : Value} (h : ImW w F M s ps fs ov tv) (a : Nat) (ha : a < 8) (z : Int) : ImW (w.setCell ⟨M, 2 + a, none⟩ (.int .i64 z)) F M (setR s a z) ps fs ov tv ∧ Keep F w (w.setCell ⟨M, 2 + a, none⟩ (.int .i64 z)) := by
  refine ⟨h.head (2 + a) _ rfl (by simp [setR, h.rl]) ?_ h.ro fun k q => q, (Keep.refl _ _).setCell (p := ⟨M, 2 + a, none⟩) h.lo.1 _⟩
  obtain ⟨r0, r1, r2, r3, r4, r5, r6, r7, e⟩ := roots8 h.rl
  have hcases : a = 0 ∨ a = 1 ∨ a = 2 ∨ a = 3 ∨ a = 4 ∨ a = 5 ∨ a = 6 ∨ a = 7 := by omega
  rcases hcases with rfl | rfl | rfl | rfl | rfl | rfl | rfl | rfl <;> simp [mkC, setR, e, intsV]
/-- The first of the row is taken. -/
theorem ImW.pop {w : World} {F : Nat → Prop} {M : Nat} {s : StM} {ps fs : List Nat} {ov tv tv' : Value} (h : ImW w F M s ps fs ov tv) {r : List Int} (hq : QAt w 62 tv' (rowP ps r)) (hn : ∀ k, tv'.ownBlock = some k → tv.ownBlock = some k) : ImW (w.setCell ⟨M, 11, none⟩ tv') F M { s with row := r } ps fs ov tv' ∧ Keep F w (w.setCell ⟨M, 11, none⟩ tv') := by
  obtain ⟨r0, r1, r2, r3, r4, r5, r6, r7, e⟩ := roots8 h.rl
  exact ⟨h.head 11 _ rfl h.rl (by simp [mkC, e, intsV]) hq hn, (Keep.refl _ _).setCell (p := ⟨M, 11, none⟩) h.lo.1 _⟩
theorem tabP_setCol (ps : List Nat) (obs : List ObM) (z c : Int) : tabP ps (setCol obs z c) = tabP ps obs := tabP_congr (setCol_length _ _ _) fun i => by
  unfold setCol
  rw [List.getElem?_modify]
  cases obs[i]? with
  | none => simp
  | some o => by_cases q : z.toNat - 1 = i <;> simp [q]
theorem tabP_setF (ps : List Nat) (obs : List ObM) (z c v : Int) : tabP ps (setF obs z c v) = tabP ps obs := tabP_congr (setF_length _ _ _ _) fun i => by
  unfold setF
  rw [List.getElem?_modify]
  cases obs[i]? with
  | none => simp
  | some o => by_cases q : z.toNat - 1 = i <;> simp [q]
theorem ImW.obj {w w' : World} {F : Nat → Prop} {M : Nat} {s t : StM} {ps fs : List Nat} {ov tv : Value} (h : ImW w F M s ps fs ov tv) (hs : t.mode = s.mode ∧ t.roots = s.roots ∧ t.cyc = s.cyc ∧ t.row = s.row) (hob : ObsAt w' F ps fs t.obs) (hl : t.obs.length = s.obs.length) (ht : tabP ps t.obs = tabP ps s.obs) (b : Nat) (hb : ∃ cs ty, w.heap[b]? = some (.cells cs ty (0, 0)) ∧ ty ≠ 69 ∧ ty ≠ 62) (hk : ∀ k, k ≠ b → w'.heap[k]? = w.heap[k]?) (hsz : w'.heap.size = w.heap.size) : ImW w' F M t ps fs ov tv := by
  obtain ⟨cs, ty, hb1, hb2, hb3⟩ := hb
  refine ⟨hob, ?_, ?_, ?_, h.ne, by rw [hs.2.1]; exact h.rl, ⟨h.lo.1, fun k q => by rw [hsz]; exact h.lo.2 k q⟩, h.fo⟩
  · rw [hk M (fun e => hb2 (by
      rw [← e] at hb1
      have := hb1.symm.trans h.blk
      simp only [Option.some.injEq, Obj.cells.injEq] at this
      exact this.2.1))]
    have := h.blk
    unfold mkC at this ⊢
    rw [hs.1, hs.2.1, hs.2.2.1]
    exact this
  · rw [hl, ht]
    refine own_kept h.ow fun k q => ?_
    obtain ⟨_, cur, c⟩ := h.ltO q
    exact hk k (tag_ne c hb1 (fun e => hb3 e.symm))
  · rw [hs.2.2.2]
    refine h.ro.kept fun k q => ?_
    obtain ⟨_, cur, c⟩ := h.ltT q
    exact hk k (tag_ne c hb1 (fun e => hb3 e.symm))
theorem mem_psM {w : World} {F : Nat → Prop} {ps fs : List Nat} {obs : List ObM} (h : ObsAt w F ps fs obs) {z : Int} {o : ObM} (hg : getM obs z = some o) : ps.getD (z.toNat - 1) 0 ∈ ps ∧ fs.getD (z.toNat - 1) 0 ∈ fs := by
  obtain ⟨_, h2, _⟩ := getM_some.1 hg
  have hzl := (List.getElem?_eq_some_iff.1 h2).1
  refine ⟨?_, ?_⟩
  · rw [List.getD_eq_getElem?_getD, List.getElem?_eq_getElem (by rw [h.lp]; exact hzl)]; exact List.getElem_mem _
  · rw [List.getD_eq_getElem?_getD, List.getElem?_eq_getElem (by rw [h.lf]; exact hzl)]; exact List.getElem_mem _
/-- One object gets another colour. -/
theorem ImW.colour {w : World} {F : Nat → Prop} {M : Nat} {s : StM} {ps fs : List Nat} {ov tv : Value} (h : ImW w F M s ps fs ov tv) {z : Int} {o : ObM} (hg : getM s.obs z = some o) (c : Int) : ImW (w.setCell ⟨ps.getD (z.toNat - 1) 0, 2, none⟩ (.int .i64 c)) F M { s with obs := setCol s.obs z c } ps fs ov tv ∧ Keep F w (w.setCell ⟨ps.getD (z.toNat - 1) 0, 2, none⟩ (.int .i64 c)) :=
  ⟨h.obj ⟨rfl, rfl, rfl, rfl⟩ (h.ob.colour hg c) (setCol_length _ _ _) (tabP_setCol _ _ _ _) (ps.getD (z.toNat - 1) 0) ⟨_, _, (h.ob.get hg).blk, by decide, by decide⟩ (fun k hk => set_other _ hk) (by simp [World.setCell]), (Keep.refl _ _).setCell (p := ⟨_, 2, none⟩) (h.ob.lo.1 _ (mem_psM h.ob hg).1) _⟩
theorem ImW.setFld {w : World} {F : Nat → Prop} {M : Nat} {s : StM} {ps fs : List Nat} {ov tv : Value} (h : ImW w F M s ps fs ov tv) {z : Int} {o : ObM} (hg : getM s.obs z = some o) (c : Nat) (v : Int) : ImW (w.setCell ⟨fs.getD (z.toNat - 1) 0, c, none⟩ (.int .i64 v)) F M { s with obs := setF s.obs z c v } ps fs ov tv ∧ Keep F w (w.setCell ⟨fs.getD (z.toNat - 1) 0, c, none⟩ (.int .i64 v)) :=
  ⟨h.obj ⟨rfl, rfl, rfl, rfl⟩ (h.ob.field hg c v) (setF_length _ _ _ _) (tabP_setF _ _ _ _ _) (fs.getD (z.toNat - 1) 0) ⟨_, _, (h.ob.get hg).row, by decide, by decide⟩ (fun k hk => set_other _ hk) (by simp [World.setCell]), (Keep.refl _ _).setCell (p := ⟨_, c, none⟩) (h.ob.lo.2 _ (mem_psM h.ob hg).2) _⟩
/-- The row grows. -/
theorem ImW.push {w w3 : World} {F : Nat → Prop} {M : Nat} {s : StM} {ps fs : List Nat} {ov tv tv' : Value} {z : Int} {o : Obj} (h : ImW w F M s ps fs ov tv) (hg : (w.alloc o).grownBy w3 tv.ownBlock) (hq : QAt w3 62 tv' (rowP ps s.row ++ [.pointer (some ⟨ps.getD (z.toNat - 1) 0, 0, none⟩)])) (ha : tv'.ownBlock = tv.ownBlock ∨ ∃ b, tv'.ownBlock = some b ∧ (w.alloc o).heap.size ≤ b) :
    ImW (w3.setCell ⟨M, 11, none⟩ tv') F M { s with row := s.row ++ [z] } ps fs ov tv' ∧ Keep F w (w3.setCell ⟨M, 11, none⟩ tv') ∧ w3.cell? ⟨M, 11, none⟩ = some tv ∧ w3.frozen? ⟨M, 11, none⟩ = false := by
  have s1 : (w.alloc o).heap.size = w.heap.size + 1 := World.size_alloc _ _
  have s2 := hg.size
  have kp : ∀ k, k < w.heap.size → tv.ownBlock ≠ some k → w3.heap[k]? = w.heap[k]? := fun k hk hq => by
    rw [hg.block k (by omega) (fun e => hq e.symm), Below.heap_alloc _ _ _ hk]
  have hnew : ∀ k, k < w.heap.size → tv'.ownBlock = some k → tv.ownBlock = some k := fun k hk q => by
    rcases ha with e | ⟨b, e, hb⟩
    · exact e.symm.trans q
    · rw [e] at q
      injection q with q
      omega
  have hm : w3.heap[M]? = w.heap[M]? := kp M (lt_of h.blk) fun q => by
    obtain ⟨_, cur, b⟩ := h.ltT q
    exact tag_ne b h.blk (by decide) rfl
  -- the world with the new row, the marker's own cell as it was
  have h3 : ImW (w3.setCell ⟨M, 11, none⟩ tv') F M { s with row := s.row ++ [z] } ps fs ov tv' := by
    obtain ⟨r0, r1, r2, r3, r4, r5, r6, r7, e⟩ := roots8 h.rl
    have hM : ∀ k, k ≠ M → (w3.setCell ⟨M, 11, none⟩ tv').heap[k]? = w3.heap[k]? := fun k hk => set_other _ hk
    refine ⟨h.ob.kept fun k cs ty b c => ?_, ?_, own_kept h.ow fun k q => ?_, ?_, fun k q r => ?_, h.rl, ⟨h.lo.1, fun k q => by have := h.lo.2 k q; simp [World.setCell]; omega⟩, ⟨h.fo.1, fun k q r => ?_⟩⟩
    · rw [hM k (tag_ne b h.blk (by rcases c with c | c; rw [c]; decide; rw [c.1]; decide))]
      refine kp k (lt_of b) fun q => ?_
      obtain ⟨_, cur, d⟩ := h.ltT q
      exact tag_ne d b (by rcases c with c | c; rw [c]; decide; rw [c.1]; decide) rfl
    · rw [set_same _ (hm.trans h.blk)]
      congr 2
      simp [mkC, e, intsV]
    · obtain ⟨hl, cur, b⟩ := h.ltO q
      rw [hM k (tag_ne b h.blk (by decide))]
      exact kp k hl (h.ne k q)
    · show QAt _ 62 tv' (rowP ps (s.row ++ [z]))
      rw [show rowP ps (s.row ++ [z]) = rowP ps s.row ++ [.pointer (some ⟨ps.getD (z.toNat - 1) 0, 0, none⟩)] by simp [rowP]]
      refine hq.kept fun k q => hM k fun e => ?_
      obtain ⟨cur, b⟩ := hq.tag q
      exact tag_ne b (hm.trans h.blk) (by decide) e
    · exact h.ne k q (hnew k (h.ltO q).1 r)
    · exact h.fo.2 k (hnew k (h.lo.2 k r) q) r
  have hm11 := h.mode.2.2.2.1
  refine ⟨h3, ⟨hg.os, hg.tape, hg.output, by simp [World.setCell]; omega, fun k hk => ?_⟩, (World.cell?_of_block (w := w) hm).trans hm11, (World.frozen?_of_block (w := w) hm).trans (h.mode.2.2.2.2.2 11)⟩
  rw [set_other _ (fun e => h.lo.1 (by rw [← e]; exact hk))]
  exact kp k (h.lo.2 k hk) fun q => h.fo.2 k q hk
end Go.Proofs.Ytchcdlelaklnnaa
