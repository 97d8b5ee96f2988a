/- The program's marker in memory. -/
import Derived.Test.YtcigiilhlealdaaKsM
namespace Go.Proofs.Ytcigiilhlealdaa
set_option linter.unusedVariables false
open Go.ChangeShapes Go.WideShapes Go.ChangeAt Go.RowKit

theorem setCells_grownM (b : Nat) : ∀ (vs : List Value) (o : Nat) (w : World), w.grownBy (w.setCells b o vs) (some b)
  | [], o, w => ⟨rfl, rfl, rfl, Nat.le_refl _, fun _ _ _ => rfl⟩
  | v :: r, o, w => by
    rw [World.setCells]
    have h := setCells_grownM b r (o + 1) (w.setCell ⟨b, o, none⟩ v)
    refine ⟨h.os, h.tape, h.output, by have := h.size; simpa [World.setCell] using this, fun k hk hne => ?_⟩
    rw [h.block k (by simpa [World.setCell] using hk) hne]
    exact Below.heap_setCell _ _ _ _ (fun e => hne (by rw [e]))
theorem setCells_tag (b : Nat) : ∀ (vs : List Value) (o : Nat) (w : World) (e : TypeId), (∃ cur, w.heap[b]? = some (.cells cur e (0, 0))) → ∃ cur, (w.setCells b o vs).heap[b]? = some (.cells cur e (0, 0))
  | [], o, w, e, h => h
  | v :: r, o, w, e, ⟨cur, h⟩ => by
    rw [World.setCells]
    exact setCells_tag b r (o + 1) _ e ⟨_, set_same v h⟩
/-- The slice at cell o of block b, of capacity c, holds vs; its spare cells may be written. -/
structure TodoV (w : World) (e : TypeId) (b o c : Nat) (vs : List Value) : Prop where
  tag : ∃ cur, w.heap[b]? = some (.cells cur e (0, 0))
  cap : vs.length ≤ c
  cells : ∀ j (h : j < vs.length), w.cell? ⟨b, o + j, none⟩ = some vs[j]
  room : ∀ j, j < c → (w.cell? ⟨b, o + j, none⟩).isSome = true ∧ w.frozen? ⟨b, o + j, none⟩ = false
theorem TodoV.hi {w : World} {e : TypeId} {b o c : Nat} {vs : List Value} (h : TodoV w e b o c vs) : b < w.heap.size := by
  obtain ⟨cur, q⟩ := h.tag
  exact lt_of q
theorem TodoV.kept {w w' : World} {e : TypeId} {b o c : Nat} {vs : List Value} (h : TodoV w e b o c vs) (hb : w'.heap[b]? = w.heap[b]?) : TodoV w' e b o c vs := by
  have e1 : ∀ j, w'.cell? ⟨b, j, none⟩ = w.cell? ⟨b, j, none⟩ := fun j => World.cell?_of_block (w := w) hb
  have e2 : ∀ j, w'.frozen? ⟨b, j, none⟩ = w.frozen? ⟨b, j, none⟩ := fun j => World.frozen?_of_block (w := w) hb
  obtain ⟨cur, q⟩ := h.tag
  exact ⟨⟨cur, hb.trans q⟩, h.cap, fun j hj => by rw [e1]; exact h.cells j hj, fun j hj => by rw [e1, e2]; exact h.room j hj⟩
theorem TodoV.of_own {B : Nat} {w : World} {e : TypeId} {g c n : Nat} {vs : List Value} (h : w.ownsRow B e 1 (.slice (some ⟨g, 0, none⟩) n c) n vs) : n = vs.length ∧ TodoV w e g 0 c vs := by
  have hn : vs.length = n := by have := h.1; omega
  refine ⟨hn.symm, ?_⟩
  rcases h.2 with ⟨q, _⟩ | ⟨g', cap, cur, q, _, hg, h1, _, hsz, htk⟩
  · simp at q
  · simp only [Value.slice.injEq, Option.some.injEq, Addr.mk.injEq, and_true, true_and] at q
    obtain ⟨rfl, rfl⟩ := q
    refine ⟨⟨cur, hg⟩, by omega, fun j hj => ?_, fun j hj => ⟨?_, free_of hg⟩⟩
    · rw [Nat.zero_add, World.ownsRow.cellAt h j (by omega)]
      simp [hj]
    · rw [cell_of_row w g (0 + j) cur e (0, 0) hg]
      simp
      omega
theorem TodoV.tail {w : World} {e : TypeId} {b o c : Nat} {v : Value} {vs : List Value} (h : TodoV w e b o c (v :: vs)) : TodoV w e b (o + 1) (c - 1) vs := by
  have hc := h.cap
  simp only [List.length_cons] at hc
  refine ⟨h.tag, by omega, fun j hj => ?_, fun j hj => ?_⟩
  · have := h.cells (j + 1) (by simp; omega)
    rw [show o + 1 + j = o + (j + 1) by omega]
    simpa using this
  · rw [show o + 1 + j = o + (j + 1) by omega]
    exact h.room (j + 1) (by omega)
theorem TodoV.none {w : World} {e : TypeId} {b o c : Nat} {vs : List Value} (h : TodoV w e b o c vs) (o' : Nat) : TodoV w e b o' 0 [] := ⟨h.tag, Nat.le_refl _, fun j hj => by simp at hj, fun j hj => by omega⟩
/-- A queue's slice. -/
def QAt (w : World) (e : TypeId) (v : Value) (vs : List Value) : Prop := (v = .slice none 0 0 ∧ vs = []) ∨ ∃ b o c, v = .slice (some ⟨b, o, none⟩) vs.length c ∧ TodoV w e b o c vs
theorem QAt.form {w : World} {e : TypeId} {v : Value} {vs : List Value} (h : QAt w e v vs) : ∃ a c, v = .slice a vs.length c := by
  rcases h with ⟨rfl, rfl⟩ | ⟨b, o, c, rfl, _⟩
  · exact ⟨_, _, rfl⟩
  · exact ⟨_, _, rfl⟩
theorem QAt.kept {w w' : World} {e : TypeId} {v : Value} {vs : List Value} (h : QAt w e v vs) (hk : ∀ k, v.ownBlock = some k → w'.heap[k]? = w.heap[k]?) : QAt w' e v vs := by
  rcases h with h | ⟨b, o, c, rfl, h⟩
  · exact .inl h
  · exact .inr ⟨b, o, c, rfl, h.kept (hk b rfl)⟩
theorem QAt.tag {w : World} {e : TypeId} {v : Value} {vs : List Value} (h : QAt w e v vs) {k : Nat} (hk : v.ownBlock = some k) : ∃ cur, w.heap[k]? = some (.cells cur e (0, 0)) := by
  rcases h with ⟨rfl, _⟩ | ⟨b, o, c, rfl, h⟩
  · simp [Value.ownBlock] at hk
  · simp only [Value.ownBlock, Option.some.injEq] at hk
    subst hk
    exact h.tag
theorem wpList_append_q {P : Program} {w : World} {ops : Array Oper} {rest : List Oper} {op : Oper} {a : Act} {Q : Exit → Act → World → Prop} (hgd : op.guard = none) (s x : Operand) (t : TypeId)
    (ho : op.op = .call { callee := .builtin .append, args := #[s, x], argTypes := #[t, t] })
    (e : TypeId) (i : TypeInfo) (z : Value) (ht : P.underlying t = some (.slice e)) (hi : P.info? e = some i) (hz : i.zero = some z) (hsize : i.size = 1) (hzs : z.cells.size = 1) (hby : i.bytes = 8)
    (v : Value) (vs : List Value) (hs : a.eval s = v) (hT : QAt w e v vs) (h1 : ∀ u ∈ vs, u.oneCell' = true)
    (xb : Nat) (xc : Nat) (u : Value) (hx : a.eval x = .slice (some ⟨xb, 0, none⟩) 1 xc) (hxc : w.cell? ⟨xb, 0, none⟩ = some u) (hu : u.oneCell' = true)
    (h63 : vs.length ≤ 1000000000000)
    (h : ∀ v' w', QAt w' e v' (vs ++ [u]) → w.grownBy w' v.ownBlock → (v'.ownBlock = v.ownBlock ∨ ∃ b, v'.ownBlock = some b ∧ w.heap.size ≤ b) → v' ≠ .slice none 0 0 → wpList P ops Q rest (a.put op.dst v') w') :
    wpList P ops Q (op :: rest) a w := by
  have hsrc : ∀ j v, [u][j]? = some v → w.cell? ((⟨xb, 0, none⟩ : Addr).add j) = some v := fun j v hj => by
    have hj0 : j = 0 := by have := (List.getElem?_eq_some_iff.1 hj).1; simp at this; omega
    subst hj0
    simp at hj
    subst hj
    rw [Addr.add_lit]
    exact hxc
  rcases hT with ⟨rfl, rfl⟩ | ⟨b, o, c, rfl, hT⟩
  · refine wpList_append_own_at w hgd s x t ho w.heap.size e i z 1 8 ht hi hz hsize hby hzs (by omega) (.slice .none 0 0) 0 [] hs ⟨rfl, .inl ⟨rfl, rfl⟩⟩ ⟨xb, 0, none⟩ 1 xc [u] hx rfl hsrc (by simpa using hu) (by unfold maxLen; omega) (by omega) (Nat.le_refl _) (fun v' w' a1 a2 _ a4 => ?_)
    obtain ⟨g, c', rfl⟩ := own_some a1 (by omega)
    have hg0 := (World.ownsRow.lt a1 g rfl).1
    refine h _ w' (.inr ⟨g, 0, c', rfl, (TodoV.of_own a1).2⟩) a2 (.inr ⟨g, rfl, hg0⟩) (by simp)
  · refine wpList_append_arg w hgd s x t ho e i z 1 8 ht hi hz hsize hby hzs (by omega) b o vs.length c vs hs (by omega) (fun j v hj => ?_) ⟨xb, 0, none⟩ 1 xc [u] hx rfl hsrc (by simpa using hu) (fun hr j hj => ?_) (by unfold maxLen; omega) (by omega) (fun hr => ?_) (fun hr v' w' hown hg => ?_)
    · obtain ⟨hj1, hj2⟩ := List.getElem?_eq_some_iff.1 hj
      rw [hT.cells j hj1, ← hj2]
    · have hj0 : j = 0 := by simp at hj; omega
      subst hj0
      rw [show o + vs.length * 1 + 0 = o + vs.length by omega]
      exact hT.room vs.length (by omega)
    · have hroom := hT.room vs.length (by omega)
      have hT' : TodoV (w.setCells b (o + vs.length * 1) [u]) e b o c (vs ++ [u]) := by
        rw [show o + vs.length * 1 = o + vs.length by omega]
        have hone : w.setCells b (o + vs.length) [u] = w.setCell ⟨b, o + vs.length, none⟩ u := rfl
        rw [hone]
        obtain ⟨cur, hcur⟩ := hT.tag
        refine ⟨⟨_, set_same u hcur⟩, by simp; omega, fun j hj => ?_, fun j hj => ?_⟩
        · by_cases hjz : j < vs.length
          · rw [World.cell?_setCell_other _ _ _ _ (fun q => by injection q with _ q2; omega), hT.cells j hjz]
            simp [hjz]
          · have ej : j = vs.length := by simp at hj; omega
            subst ej
            obtain ⟨q, hq⟩ := Option.isSome_iff_exists.1 hroom.1
            rw [World.cell?_setCell_same _ _ _ hq]
            simp
        · obtain ⟨r1, r2⟩ := hT.room j hj
          refine ⟨?_, by rw [World.frozen?_setCell]; exact r2⟩
          by_cases hjz : j = vs.length
          · subst hjz
            obtain ⟨q, hq⟩ := Option.isSome_iff_exists.1 hroom.1
            rw [World.cell?_setCell_same _ _ _ hq]
            rfl
          · rw [World.cell?_setCell_other _ _ _ _ (fun q => by injection q with _ q2; omega)]
            exact r1
      have := h (.slice (some ⟨b, o, none⟩) (vs.length + 1) c) _ (.inr ⟨b, o, c, by simp, hT'⟩) (setCells_grownM b _ _ w) (.inl rfl) (by simp)
      exact this
    · obtain ⟨g, c', rfl⟩ := own_some hown (by omega)
      have hg0 := (World.ownsRow.lt hown g rfl).1
      refine h _ w' (.inr ⟨g, 0, c', by simp, (TodoV.of_own hown).2⟩) ⟨hg.os, hg.tape, hg.output, hg.size, fun k hk _ => hg.block k hk (by simp)⟩ (.inr ⟨g, rfl, hg0⟩) (by simp)
/-- All objects ever made, by id; nil for 0 and for those that are gone. -/
def tabP (ps : List Nat) (obs : List ObM) : List Value := .pointer none :: (List.range obs.length).map fun i => if ((obs[i]?).map ObM.there).getD false then .pointer (some ⟨ps.getD i 0, 0, none⟩) else .pointer none
theorem tabP_length (ps : List Nat) (obs : List ObM) : (tabP ps obs).length = obs.length + 1 := by simp [tabP]
theorem tabP_congr {ps : List Nat} {a b : List ObM} (hl : a.length = b.length) (h : ∀ i : Nat, (a[i]?).map ObM.there = (b[i]?).map ObM.there) : tabP ps a = tabP ps b := by
  unfold tabP
  rw [hl]
  congr 1
  refine List.map_congr_left fun i _ => ?_
  rw [h i]
theorem tabP_one (ps : List Nat) (obs : List ObM) : ∀ u ∈ tabP ps obs, u.oneCell' = true := fun u hu => by
  rcases List.mem_cons.1 hu with rfl | hu
  · rfl
  · obtain ⟨i, _, rfl⟩ := List.mem_map.1 hu
    split <;> rfl
theorem tabP_some {ps : List Nat} {obs : List ObM} {z : Int} {o : ObM} (h : getM obs z = some o) : (tabP ps obs)[z.toNat]? = some (.pointer (some ⟨ps.getD (z.toNat - 1) 0, 0, none⟩)) := by
  obtain ⟨h1, h2, h3⟩ := getM_some.1 h
  have hl := (List.getElem?_eq_some_iff.1 h2).1
  obtain ⟨m, hm⟩ : ∃ m, z.toNat = m + 1 := ⟨z.toNat - 1, by omega⟩
  rw [hm] at h2 hl ⊢
  simp only [Nat.add_sub_cancel] at h2 hl ⊢
  have e := (List.getElem?_eq_some_iff.1 h2).2
  simp [tabP, hl, e, h3]
theorem tabP_none {ps : List Nat} {obs : List ObM} {z : Int} (h : getM obs z = none) (h0 : 0 ≤ z) (hl : z ≤ (obs.length : Int)) : (tabP ps obs)[z.toNat]? = some (.pointer none) := by
  by_cases hz : z = 0
  · subst hz; rfl
  obtain ⟨m, hm⟩ : ∃ m, z.toNat = m + 1 := ⟨z.toNat - 1, by omega⟩
  have hml : m < obs.length := by omega
  rw [hm]
  unfold getM at h
  rw [if_pos (by omega), hm, Nat.add_sub_cancel, List.getElem?_eq_getElem hml] at h
  have ht : obs[m].there = false := by
    cases q : obs[m].there with
    | false => rfl
    | true => simp [q] at h
  simp [tabP, hml, ht]
def rowP (ps : List Nat) (row : List Int) : List Value := row.map fun z => .pointer (some ⟨ps.getD (z.toNat - 1) 0, 0, none⟩)
theorem rowP_one (ps : List Nat) (row : List Int) : ∀ u ∈ rowP ps row, u.oneCell' = true := fun u hu => by
  obtain ⟨i, _, rfl⟩ := List.mem_map.1 hu
  rfl
/-- The cells of a marker. -/
def mkC (s : StM) (ov tv : Value) : Array Value := (#[.int .i64 s.mode, ov] ++ (intsV s.roots).toArray ++ #[.bool s.cyc, tv])
/-- The program's marker in memory. -/
structure ImW (w : World) (F : Nat → Prop) (M : Nat) (s : StM) (ps fs : List Nat) (ov tv : Value) : Prop where
  ob : ObsAt w F ps fs s.obs
  blk : w.heap[M]? = some (.cells (mkC s ov tv) 82 (0, 0))
  ow : w.ownsRow 0 67 1 ov (s.obs.length + 1) (tabP ps s.obs)
  ro : QAt w 67 tv (rowP ps s.row)
  ne : ∀ k, ov.ownBlock = some k → tv.ownBlock ≠ some k
  rl : s.roots.length = 8
  lo : ¬ F M ∧ ∀ k, F k → k < w.heap.size
  fo : (∀ k, ov.ownBlock = some k → ¬ F k) ∧ ∀ k, tv.ownBlock = some k → ¬ F k
theorem roots8 {s : StM} (h : s.roots.length = 8) : ∃ r0 r1 r2 r3 r4 r5 r6 r7, s.roots = [r0, r1, r2, r3, r4, r5, r6, r7] := by
  match hr : s.roots, h with
  | [r0, r1, r2, r3, r4, r5, r6, r7], _ => exact ⟨_, _, _, _, _, _, _, _, rfl⟩
theorem ImW.mode {w : World} {F : Nat → Prop} {M : Nat} {s : StM} {ps fs : List Nat} {ov tv : Value} (h : ImW w F M s ps fs ov tv) : w.cell? ⟨M, 0, none⟩ = some (.int .i64 s.mode) ∧ w.cell? ⟨M, 1, none⟩ = some ov ∧ w.cell? ⟨M, 10, none⟩ = some (.bool s.cyc) ∧ w.cell? ⟨M, 11, none⟩ = some tv ∧ (∀ j (hj : j < 8), w.cell? ⟨M, 2 + j, none⟩ = some (.int .i64 (s.roots[j]'(by rw [h.rl]; exact hj)))) ∧ ∀ j, w.frozen? ⟨M, j, none⟩ = false := by
  obtain ⟨r0, r1, r2, r3, r4, r5, r6, r7, e⟩ := roots8 h.rl
  have hb := h.blk
  unfold mkC at hb
  refine ⟨cell_of hb (by simp [e, intsV]), cell_of hb (by simp [e, intsV]), cell_of hb (by simp [e, intsV]), cell_of hb (by simp [e, intsV]), fun j hj => cell_of hb ?_, fun j => free_of hb⟩
  have hr : s.roots[j]? = some (s.roots[j]'(by rw [h.rl]; exact hj)) := List.getElem?_eq_getElem _
  rw [Array.getElem?_append_left (by simp [intsV, h.rl]; omega), Array.getElem?_append_right (by simp)]
  simp [intsV, hr]
end Go.Proofs.Ytcigiilhlealdaa
