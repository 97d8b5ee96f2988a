/- spec.GcLive. -/
import Derived.Test.YtedpocgmfpaeeaaGlW
import Derived.Test.YtedpocgmfpaeeaaGlL
namespace Go.Proofs.Ytedpocgmfpaeeaa
set_option linter.unusedVariables false
open Go.ChangeShapes Go.WideShapes Go.ChangeAt Go.RowKit

/-- How long a slice is. -/
def lenV : Value → Nat
  | .slice _ n _ => n
  | _ => 0
/-- What the specification answers. -/
noncomputable def liveOf (x : GhpL) : List Int := if x.roots.length > 8 ∨ x.objs.length > 8000 ∨ x.queue.length > 8000 then [] else liveL x.objs (x.roots ++ x.queue)
theorem ints_cells {lo hi : Nat} {W : World} {v : Value} {zs : List Int} (h : ListAt IntR 1 true lo hi W v zs) : ∃ b c, v = .slice (some ⟨b, 0, none⟩) zs.length c ∧ zs.length ≤ c ∧ b < hi ∧ ∀ j (hj : j < zs.length), W.cell? ⟨b, j, none⟩ = some (.int .i64 zs[j]) := by
  rcases h with ⟨e, _⟩ | ⟨b, off, c, rfl, _, hb, hown, hr⟩
  · cases e
  · obtain ⟨rfl, _, hc⟩ := hown rfl
    refine ⟨b, c, rfl, hc, hb, fun j hj => ?_⟩
    obtain ⟨row, _, hra, hR, _⟩ := hr j hj
    have e : row = [.int .i64 zs[j]] := hR
    subst e
    have := hra 0 _ rfl
    simpa using this
theorem src_cells {W : World} {b n c o m : Nat} {zs : List Int} (h : ∀ j (hj : j < zs.length), W.cell? ⟨b, j, none⟩ = some (.int .i64 zs[j])) (hm : m ≤ zs.length) (ho : m < zs.length → o = m) (cc : Nat) : SrcAt W 1 (.slice (some ⟨b, o, none⟩) (zs.length - m) cc) (zs.length - m) (intsV (zs.drop m)) := by
  refine .inr ⟨⟨b, o, none⟩, cc, rfl, by rw [intsV_length]; simp, fun j u hj => ?_⟩
  obtain ⟨hj1, hj2⟩ := List.getElem?_eq_some_iff.1 hj
  have hjl : j < zs.length - m := by rw [intsV_length] at hj1; simpa using hj1
  obtain rfl := ho (by omega)
  rw [Addr.add_lit, h (o + j) (by omega), ← hj2]
  simp [intsV]
theorem out_ints {B lo : Nat} {w : World} {g c : Nat} {zs : List Int} (h : OutAt B w (.slice (some ⟨g, 0, none⟩) zs.length c) zs) (hB : lo ≤ B) : IntsAt lo w.heap.size w (.slice (some ⟨g, 0, none⟩) zs.length c) zs :=
  .inr ⟨g, c, rfl, Nat.le_trans hB (World.ownsRow.lt h g rfl).1, (World.ownsRow.lt h g rfl).2, fun j hj => ⟨by rw [Nat.zero_add, h.cell hj]; rfl, World.ownsRow.frozenAt h _⟩, fun j hj => h.cell hj⟩
/-- An object in memory. -/
structure GobAt (w : World) (b k : Nat) (o : GobL) (fb fc : Nat) : Prop where
  c0 : w.cell? ⟨b, k * 5, none⟩ = some (.int .i64 o.id)
  c1 : w.cell? ⟨b, k * 5 + 1, none⟩ = some (.int .i64 o.adr)
  c2 : w.cell? ⟨b, k * 5 + 2, none⟩ = some (.int .i64 o.age)
  c3 : w.cell? ⟨b, k * 5 + 3, none⟩ = some (.int .i64 o.kind)
  c4 : w.cell? ⟨b, k * 5 + 4, none⟩ = some (.slice (some ⟨fb, 0, none⟩) o.flds.length fc)
  cap : o.flds.length ≤ fc
  fl : ∀ j (hj : j < o.flds.length), w.cell? ⟨fb, j, none⟩ = some (.int .i64 o.flds[j])
theorem gobs_cells {lo hi : Nat} {W : World} {v : Value} {objs : List GobL} (h : ListAt GobR 5 true lo hi W v objs) : ∃ b c, v = .slice (some ⟨b, 0, none⟩) objs.length c ∧ objs.length ≤ c ∧ b < hi ∧ ∀ k (hk : k < objs.length), ∃ fb fc, fb < hi ∧ GobAt W b k objs[k] fb fc := by
  rcases h with ⟨e, _⟩ | ⟨b, off, c, rfl, _, hb, hown, hr⟩
  · cases e
  · obtain ⟨rfl, _, hc⟩ := hown rfl
    refine ⟨b, c, rfl, hc, hb, fun k hk => ?_⟩
    obtain ⟨row, _, hra, ⟨v, e, hv⟩, _⟩ := hr k hk
    subst e
    obtain ⟨fb, fc, rfl, hfc, hfb, hfl⟩ := ints_cells hv
    have h0 := hra 0 _ rfl
    have h1 := hra 1 _ rfl
    have h2 := hra 2 _ rfl
    have h3 := hra 3 _ rfl
    have h4 := hra 4 _ rfl
    simp only [Nat.zero_add, Nat.add_zero] at h0 h1 h2 h3 h4
    exact ⟨fb, fc, hfb, h0, h1, h2, h3, h4, hfc, hfl⟩
theorem GobAt.below {w w' : World} {B b k : Nat} {o : GobL} {fb fc : Nat} (h : GobAt w b k o fb fc) (hB : Below B w w') (hb : b < B) (hf : fb < B) : GobAt w' b k o fb fc :=
  ⟨(hB.cell (p := ⟨b, _, none⟩) hb).trans h.c0, (hB.cell (p := ⟨b, _, none⟩) hb).trans h.c1, (hB.cell (p := ⟨b, _, none⟩) hb).trans h.c2, (hB.cell (p := ⟨b, _, none⟩) hb).trans h.c3, (hB.cell (p := ⟨b, _, none⟩) hb).trans h.c4, h.cap, fun j hj => (hB.cell (p := ⟨fb, _, none⟩) hf).trans (h.fl j hj)⟩
theorem wpList_append_src1 {P : Program} {w : World} {ops : Array Oper} {rest : List Oper} {o : Oper} {a : Act} {Q : Exit → Act → World → Prop} (hgd : o.guard = none) (s x : Operand) (t : TypeId)
    (ho : o.op = .call { callee := .builtin .append, args := #[s, x], argTypes := #[t, t] })
    (e : TypeId) (i : TypeInfo) (z : Value) (size bytes : Nat) (ht : P.underlying t = some (.slice e)) (hi : P.info? e = some i) (hz : i.zero = some z)
    (hsize : i.size = size) (hby : i.bytes = bytes) (hzs : z.cells.size = size) (hsz : 0 < size)
    (b : Nat) (hs : a.eval s = .slice (some ⟨b, 0, none⟩) 0 0)
    (xv : Value) (m : Nat) (news : List Value) (hx : a.eval x = xv) (hsrc : SrcAt w size xv m news) (h1 : ∀ u ∈ news, u.oneCell' = true)
    (h63 : m ≤ maxLen) (hbytes : m * bytes ≤ 140737488355328)
    (hK1 : m = 0 → news = [] → wpList P ops Q rest (a.put o.dst (.slice (some ⟨b, 0, none⟩) 0 0)) w)
    (hK2 : 0 < m → ∀ v' w', w'.ownsRow w.heap.size e size v' m news → w.grownBy w' none → wpList P ops Q rest (a.put o.dst v') w') :
    wpList P ops Q (o :: rest) a w := by
  rcases hsrc with ⟨e1, e2, e3⟩ | ⟨ad, c, e1, hl, hc⟩
  · subst e1; subst e2; subst e3
    refine wpList_plain hgd fun K hK => ?_
    have hr : (Builtin.append_ #[t, t] o.type #[.slice (some ⟨b, 0, none⟩) 0 0, .slice none 0 0]).run P w = .ok (.slice (some ⟨b, 0, none⟩) 0 0) w := by
      simp [Builtin.append_, run_underlying ht, sizeOf, typeInfo, hi, Builtin.lenOf, Builtin.firstCells, storeCells]
    unfold Oper.wp execOp
    simp only [ho, resolve, invoke, builtin, Sem.run_bind, Sem.run_pure, Result.andThen_ok, List.map_toArray, List.map_cons, List.map_nil, hs, hx, hr]
    exact hK _ _ (hK1 rfl rfl)
  · subst e1
    refine wpList_append_arg w hgd s x t ho e i z size bytes ht hi hz hsize hby hzs hsz b 0 0 0 [] hs (by simp) (fun j u hj => by simp at hj) ad m c news hx hl hc h1 (fun h j hj => absurd hj (by rw [hl, show m = 0 by omega]; omega)) (by omega) (by simpa using hbytes) (fun h => ?_) (fun h v' w' a1 a2 => hK2 (by omega) v' w' (by simpa using a1) a2)
    have hm : m = 0 := by omega
    have hnil : news = [] := List.eq_nil_of_length_eq_zero (by rw [hl, hm]; simp)
    have := hK1 hm hnil
    subst hm
    subst hnil
    exact this
/-- The values of the region that sets the roots and the queue one behind the other. -/
def bgVal (p1 v1 p2 v2 : Value) (rs : List Int) : Nat → Value → Nat → Nat → World → Prop
  | 0, v, lo, hi, w => v = .slice (some ⟨lo, 0, none⟩) 0 0 ∧ OwnInK lo hi w 2 1 v 0 []
  | 1, v, _, _, _ => v = p1
  | 2, v, _, _, _ => v = v1
  | 3, v, lo, hi, w => (∃ g c, v = .slice (some ⟨g, 0, none⟩) rs.length c) ∧ OwnInK lo hi w 2 1 v rs.length (intsV rs)
  | 4, v, _, _, _ => v = p2
  | _, v, _, _, _ => v = v2
theorem bgVal_below (p1 v1 p2 v2 : Value) (rs : List Int) : ∀ i v lo hi (w w' : World), Below w.heap.size w w' → hi ≤ w.heap.size → bgVal p1 v1 p2 v2 rs i v lo hi w → bgVal p1 v1 p2 v2 rs i v lo hi w' := by
  intro i v lo hi w w' hb hh h
  match i, h with
  | 0, h => exact ⟨h.1, OwnInK.below h.2 hb hh⟩
  | 1, h => exact h
  | 2, h => exact h
  | 3, h => exact ⟨h.1, OwnInK.below h.2 hb hh⟩
  | 4, h => exact h
  | i + 5, h => exact h
def bgSrc : Nat → Option Nat
  | 3 => some 0
  | _ => none
theorem bgSrc_cases {i j : Nat} (h : bgSrc i = some j) : i = 3 ∧ j = 0 := by
  unfold bgSrc at h
  split at h <;> simp_all
def bgRR (B : Nat) (w0 : World) (zs : List Int) : Nat → (Nat → Value) → World → Prop := fun _ vs W => Below B w0 W ∧ ∃ b o c, vs 6 = .slice (some ⟨b, o, none⟩) zs.length c ∧ TodoAt B W b o c zs
/-- The object of the round, a copy of the call's own. -/
structure OAt (w : World) (g : Nat) (o : GobL) (fb fc : Nat) : Prop where
  hi : g < w.heap.size
  c0 : w.cell? ⟨g, 0, none⟩ = some (.int .i64 o.id)
  c3 : w.cell? ⟨g, 3, none⟩ = some (.int .i64 o.kind)
  c4 : w.cell? ⟨g, 4, none⟩ = some (.slice (some ⟨fb, 0, none⟩) o.flds.length fc)
theorem OAt.kept {w w' : World} {g : Nat} {o : GobL} {fb fc : Nat} (h : OAt w g o fb fc) (hb : w'.heap[g]? = w.heap[g]?) (hs : w.heap.size ≤ w'.heap.size) : OAt w' g o fb fc :=
  ⟨Nat.lt_of_lt_of_le h.hi hs, (World.cell?_of_block (w := w) hb).trans h.c0, (World.cell?_of_block (w := w) hb).trans h.c3, (World.cell?_of_block (w := w) hb).trans h.c4⟩
theorem OAt.below {w w' : World} {g : Nat} {o : GobL} {fb fc : Nat} (h : OAt w g o fb fc) (hb : Below w.heap.size w w') : OAt w' g o fb fc := h.kept (hb.block g h.hi) hb.size
theorem SrG.outlen {objs : List GobL} {st todo : List Int} {us : List Bool} {out : List Int} {cur : Option (Int × Nat)} (h : SrG objs st todo us out cur) : out.length ≤ objs.length := by
  have := asc_len (m := objs.map GobL.id) h.asc fun z hz => by
    obtain ⟨i, hi, _, e⟩ := (h.mem z).1 hz
    rw [← e]; exact List.mem_map_of_mem (List.getElem_mem hi)
  simpa using this

set_option maxRecDepth 1000000 in
set_option maxHeartbeats 8000000 in
theorem specLive_calls (x : GhpL) (w : World) (row : List Value) (lo hi : Nat) (hhi : hi ≤ w.heap.size) (h : GhpO lo hi w row x) (hsm : x.small) : Calls Try.prog 6 #[.agg row.toArray] w fun e w' => ∃ v, e = .returned v ∧ IntsAt w.heap.size w'.heap.size w' v (liveOf x) ∧ Below w.heap.size w w' := by
  obtain ⟨v0, v1, v2, v4, v5, rfl, g0, g1, g2, g4, g5⟩ := h
  obtain ⟨b0, c0, rfl, hc0, hb0, hob⟩ := gobs_cells g0
  obtain ⟨b1, c1, rfl, hc1, hb1, hro⟩ := ints_cells g1
  obtain ⟨b2, c2, rfl, hc2, hb2, hqu⟩ := ints_cells g2
  obtain ⟨i9, hi9, hz9, hs9, hb9⟩ := info_parts (show (Try.prog.info? 2).map (fun i => (i.zero, i.size, i.bytes)) = some (some (.int .i64 0), 1, 8) by kernel_rfl)
  have hobH : Hid (∀ W, Below w.heap.size w W → ∀ k (hk : k < x.objs.length), ∃ fb fc, fb < w.heap.size ∧ GobAt W b0 k x.objs[k] fb fc) := fun W hW k hk => by
    obtain ⟨fb, fc, hf, hg⟩ := hob k hk
    exact ⟨fb, fc, by omega, hg.below hW (by omega) (by omega)⟩
  have hroH : Hid (∀ W, Below w.heap.size w W → SrcAt W 1 (.slice (some ⟨b1, 0, none⟩) x.roots.length c1) x.roots.length (intsV x.roots)) := fun W hW => by
    have := src_cells (n := 0) (c := 0) (o := 0) (m := 0) (fun j hj => (hW.cell (p := ⟨b1, j, none⟩) (by show b1 < _; omega)).trans (hro j hj)) (Nat.zero_le _) (fun _ => rfl) c1
    simpa using this
  have hquH : Hid (∀ W, Below w.heap.size w W → SrcAt W 1 (.slice (some ⟨b2, 0, none⟩) x.queue.length c2) x.queue.length (intsV x.queue)) := fun W hW => by
    have := src_cells (n := 0) (c := 0) (o := 0) (m := 0) (fun j hj => (hW.cell (p := ⟨b2, j, none⟩) (by show b2 < _; omega)).trans (hqu j hj)) (Nat.zero_le _) (fun _ => rfl) c2
    simpa using this
  have hsmH : Hid (∀ o ∈ x.objs, o.small) := hsm.2.2.2.2.2
  clear g0 g1 g2 g4 g5 hob hro hqu hsm
  have r0 := rangeAt_heap (heap_alloc_new w (.cells #[.slice (some ⟨b0, 0, none⟩) x.objs.length c0, .slice (some ⟨b1, 0, none⟩) x.roots.length c1, .slice (some ⟨b2, 0, none⟩) x.queue.length c2, .int .i64 x.from_, v4, v5] 30))
  have hLH : Hid (liveOf x = if x.roots.length > 8 ∨ x.objs.length > 8000 ∨ x.queue.length > 8000 then [] else liveL x.objs (x.roots ++ x.queue)) := rfl
  generalize liveOf x = L at hLH ⊢
  have k0 := r0 0 _ rfl
  have k1 := r0 1 _ rfl
  have k2 := r0 2 _ rfl
  have hbA : Hid (Below w.heap.size w (w.alloc (.cells #[.slice (some ⟨b0, 0, none⟩) x.objs.length c0, .slice (some ⟨b1, 0, none⟩) x.roots.length c1, .slice (some ⟨b2, 0, none⟩) x.queue.length c2, .int .i64 x.from_, v4, v5] 30))) := below_1 _ _
  have hsA : Hid (w.heap.size < (w.alloc (.cells #[.slice (some ⟨b0, 0, none⟩) x.objs.length c0, .slice (some ⟨b1, 0, none⟩) x.roots.length c1, .slice (some ⟨b2, 0, none⟩) x.queue.length c2, .int .i64 x.from_, v4, v5] 30)).heap.size) := by show _ < _; simp
  have r0H : Hid ((w.alloc (.cells #[.slice (some ⟨b0, 0, none⟩) x.objs.length c0, .slice (some ⟨b1, 0, none⟩) x.roots.length c1, .slice (some ⟨b2, 0, none⟩) x.queue.length c2, .int .i64 x.from_, v4, v5] 30)).rangeAt w.heap.size 0 [.slice (some ⟨b0, 0, none⟩) x.objs.length c0, .slice (some ⟨b1, 0, none⟩) x.roots.length c1, .slice (some ⟨b2, 0, none⟩) x.queue.length c2, .int .i64 x.from_, v4, v5]) := r0
  go_enter Try.func6, Try.ntmps6
  go_upto_region 1 with fail
  clear r0
  generalize w.alloc (.cells #[.slice (some ⟨b0, 0, none⟩) x.objs.length c0, .slice (some ⟨b1, 0, none⟩) x.roots.length c1, .slice (some ⟨b2, 0, none⟩) x.queue.length c2, .int .i64 x.from_, v4, v5] 30) = WA at *
  have hoA : Hid (OutAt (w.heap.size + 1) (WA.alloc (.cells #[] 2)) (.slice (some ⟨WA.heap.size, 0, none⟩) 0 0) []) := own_mono (World.ownsRow_made WA #[] 0 (Nat.le_refl _) (by unfold maxLen; omega) rfl) hsA.out
  have hbB : Hid (Below WA.heap.size WA (WA.alloc (.cells #[] 2))) := below_1 _ _
  go_upto_region 2 with fail
  generalize WA.alloc (.cells #[] 2) = WB at *
  have hbW : Hid (Below w.heap.size w WB) := hbA.out.trans (hbB.out.mono hbA.out.size)
  have k0A := k0
  have k1A := k1
  have k2A := k2
  clear k0 k1 k2
  have k0 : WB.cell? ⟨w.heap.size, 0, none⟩ = some (.slice (some ⟨b0, 0, none⟩) x.objs.length c0) := (hbB.out.cell (p := ⟨w.heap.size, 0, none⟩) hsA.out).trans k0A
  have k1 : WB.cell? ⟨w.heap.size, 1, none⟩ = some (.slice (some ⟨b1, 0, none⟩) x.roots.length c1) := (hbB.out.cell (p := ⟨w.heap.size, 1, none⟩) hsA.out).trans k1A
  have k2 : WB.cell? ⟨w.heap.size, 2, none⟩ = some (.slice (some ⟨b2, 0, none⟩) x.queue.length c2) := (hbB.out.cell (p := ⟨w.heap.size, 2, none⟩) hsA.out).trans k2A
  have rB : Hid (∀ W, Below WB.heap.size WB W → W.rangeAt w.heap.size 0 [.slice (some ⟨b0, 0, none⟩) x.objs.length c0, .slice (some ⟨b1, 0, none⟩) x.roots.length c1, .slice (some ⟨b2, 0, none⟩) x.queue.length c2, .int .i64 x.from_, v4, v5]) := fun W hW j v hv => ((hW.cell (p := ⟨w.heap.size, 0 + j, none⟩) (Nat.lt_of_lt_of_le hsA.out hbB.out.size)).trans (hbB.out.cell (p := ⟨w.heap.size, 0 + j, none⟩) hsA.out)).trans (r0H.out j v hv)
  have hsB : Hid (w.heap.size < WB.heap.size) := Nat.lt_of_lt_of_le hsA.out hbB.out.size
  generalize WA.heap.size = ob at *
  clear hbA hbB hsA r0H
  by_cases q1 : x.roots.length > 8
  · have q1' : (x.roots.length : Int) > 8 := by omega
    have hL : Hid (L = []) := by show _ = _; rw [hLH.out, if_pos (.inl q1)]
    go_wp2
    go_ret
    exact ⟨_, rfl, by rw [hL.out]; exact .inl ⟨rfl, _, _, rfl⟩, hbW.out⟩
  have q1' : ¬ ((x.roots.length : Int) > 8) := by omega
  by_cases q2 : x.objs.length > 8000
  · have q2' : (x.objs.length : Int) > 8000 := by omega
    have hL : Hid (L = []) := by show _ = _; rw [hLH.out, if_pos (.inr (.inl q2))]
    go_wp2
    go_ret
    exact ⟨_, rfl, by rw [hL.out]; exact .inl ⟨rfl, _, _, rfl⟩, hbW.out⟩
  have q2' : ¬ ((x.objs.length : Int) > 8000) := by omega
  by_cases q3 : x.queue.length > 8000
  · have q3' : (x.queue.length : Int) > 8000 := by omega
    have hL : Hid (L = []) := by show _ = _; rw [hLH.out, if_pos (.inr (.inr q3))]
    go_wp2
    go_ret
    exact ⟨_, rfl, by rw [hL.out]; exact .inl ⟨rfl, _, _, rfl⟩, hbW.out⟩
  have q3' : ¬ ((x.queue.length : Int) > 8000) := by omega
  have hL : Hid (L = liveL x.objs (x.roots ++ x.queue)) := by show _ = _; rw [hLH.out, if_neg (by omega)]
  clear hLH
  clear k0A k1A k2A
  have hroB : Hid (∀ W, Below WB.heap.size WB W → SrcAt W 1 (.slice (some ⟨b1, 0, none⟩) x.roots.length c1) x.roots.length (intsV x.roots)) := fun W hW => hroH.out W (hbW.out.trans (hW.mono hbW.out.size))
  have hquB : Hid (∀ W, Below WB.heap.size WB W → SrcAt W 1 (.slice (some ⟨b2, 0, none⟩) x.queue.length c2) x.queue.length (intsV x.queue)) := fun W hW => hquH.out W (hbW.out.trans (hW.mono hbW.out.size))
  have hcB : Hid (∀ W, Below WB.heap.size WB W → W.cell? ⟨w.heap.size, 1, none⟩ = some (.slice (some ⟨b1, 0, none⟩) x.roots.length c1) ∧ W.cell? ⟨w.heap.size, 2, none⟩ = some (.slice (some ⟨b2, 0, none⟩) x.queue.length c2)) := fun W hW => ⟨(hW.cell (p := ⟨w.heap.size, 1, none⟩) hsB.out).trans k1, (hW.cell (p := ⟨w.heap.size, 2, none⟩) hsB.out).trans k2⟩
  go_upto_region 4 with fail
  refine wp_region_mixed (by kernel_rfl) (fun vs => { tmps := #[Value.agg #[Value.slice (some { block := b0, off := 0 }) x.objs.length c0, Value.slice (some { block := b1, off := 0 }) x.roots.length c1, Value.slice (some { block := b2, off := 0 }) x.queue.length c2, Value.int IntKind.i64 x.from_, v4, v5], Value.pointer (some { block := w.heap.size, off := 0 }), Value.slice none 0 0, Value.slice (some { block := ob, off := 0 }) 0 0, vs 7, undef, undef, undef, undef, undef, Value.slice (some { block := ob, off := 0 }) 0 0, Value.pointer (some { block := w.heap.size, off := 1 }), Value.slice (some { block := b1, off := 0 }) x.roots.length c1, Value.int IntKind.i64 ↑x.roots.length, Value.bool false, Value.bool false, Value.pointer (some { block := w.heap.size, off := 0 }), Value.slice (some { block := b0, off := 0 }) x.objs.length c0, Value.int IntKind.i64 ↑x.objs.length, Value.bool false, Value.bool false, Value.bool false, Value.pointer (some { block := w.heap.size, off := 2 }), Value.slice (some { block := b2, off := 0 }) x.queue.length c2, Value.int IntKind.i64 ↑x.queue.length, Value.bool false, Value.bool false, undef, vs 0, vs 1, vs 2, vs 3, vs 4, vs 5, vs 6, undef, undef, undef, undef, undef, undef, undef, undef, undef, undef, undef, undef, undef, undef, undef, undef, undef, undef, undef, undef, undef, undef, undef, undef, undef, undef, undef, undef, undef, undef, undef, undef, undef, undef, undef, undef, undef, undef, undef, undef, undef, undef, undef, undef, undef, undef, undef, undef, undef, undef, undef, undef, undef, undef, undef, undef, undef, undef, undef, undef, undef, undef, undef, undef, undef, undef, undef, undef], defers := [] }) (bgVal (.pointer (some ⟨w.heap.size, 1, none⟩)) (.slice (some ⟨b1, 0, none⟩) x.roots.length c1) (.pointer (some ⟨w.heap.size, 2, none⟩)) (.slice (some ⟨b2, 0, none⟩) x.queue.length c2) x.roots) bgSrc (fun i i' j h h' => by have := bgSrc_cases h; have := bgSrc_cases h'; omega) (fun i j h => by have := bgSrc_cases h; rw [this.2]; rfl) 6 [] (fun _ => false) (fun _ _ => True) (bgRR WB.heap.size WB (x.roots ++ x.queue)) (fun i => undef) rfl (by kernel_rfl) (bgVal_below _ _ _ _ _) (fun i v lo hi w hp h => trivial) (fun k vs i v w hp h => by simp at hp) (allAt_all ⟨?_, ?_, ?_, ?_, ?_, ?_, ?_, ?_, trivial⟩) (fun i o ho hp => by simp at hp) ?_ ?_ ?_
  case refine_1 =>
    intro _ _ vs lo hi W hB hv
    go_wp2
    exact RegPost.own _ rfl (below_1 _ _) ⟨rfl, OwnInK.made (World.ownsRow_made W #[] 0 (Nat.le_refl _) (by unfold maxLen; omega) rfl)⟩
  case refine_2 =>
    intro _ _ vs lo hi W hB hv
    go_wp2
    exact RegPost.own _ rfl (Below.refl _ _) rfl
  case refine_3 =>
    intro _ _ vs lo hi W hB hv
    have e1 : vs 1 = .pointer (some ⟨w.heap.size, 1, none⟩) := (hv ⟨1, .data⟩ (by simp) rfl).1
    obtain ⟨kc1, kc2⟩ := hcB.out W hB
    simp only [e1]
    go_wp2
    exact RegPost.own (.slice (some ⟨b1, 0, none⟩) x.roots.length c1) (by rw [← e1]; rfl) (Below.refl _ _) rfl
  case refine_4 =>
    intro _ _ vs lo hi W hB hv
    obtain ⟨⟨q0, q1⟩, _, _, _⟩ := hv ⟨0, .data⟩ (by simp) rfl
    have q0 : vs 0 = .slice (some ⟨lo 0, 0, none⟩) 0 0 := q0
    have q1 : OwnInK (lo 0) (hi 0) W 2 1 (vs 0) 0 [] := q1
    have e2 : vs 2 = .slice (some ⟨b1, 0, none⟩) x.roots.length c1 := (hv ⟨2, .data⟩ (by simp) rfl).1
    refine wpList_append_src1 rfl (.tmp 28) (.tmp 30) 23 rfl 2 i9 (.int .i64 0) 1 8 Try.underlying23 hi9 hz9 hs9 hb9 rfl (by omega) (lo 0) q0 (vs 2) x.roots.length (intsV x.roots) rfl (by rw [e2]; exact hroB.out W hB) (intsV_one _) (by unfold maxLen; omega) (by omega) (fun m0 n0 => ?_) (fun hpos v1' w1 hown hgrow => ?_)
    · refine wpList_nil ?_
      refine RegPost.take (.slice (some ⟨lo 0, 0, none⟩) 0 0) ⟨0, .data⟩ rfl (by simp) rfl rfl (Below.refl _ _) ?_
      refine ⟨⟨_, _, by rw [m0]⟩, ?_⟩
      rw [n0, m0, ← q0]
      exact q1
    · refine wpList_nil ?_
      obtain ⟨g, c, ev⟩ := own_some hown hpos
      exact RegPost.own v1' rfl ((Below.refl _ _).grown hgrow (Nat.le_refl _) (fun j hj => by cases hj)) ⟨⟨g, c, ev⟩, OwnInK.made hown⟩
  case refine_5 =>
    intro _ _ vs lo hi W hB hv
    go_wp2
    exact RegPost.own _ rfl (Below.refl _ _) rfl
  case refine_6 =>
    intro _ _ vs lo hi W hB hv
    have e4 : vs 4 = .pointer (some ⟨w.heap.size, 2, none⟩) := (hv ⟨4, .data⟩ (by simp) rfl).1
    obtain ⟨kc1, kc2⟩ := hcB.out W hB
    simp only [e4]
    go_wp2
    exact RegPost.own (.slice (some ⟨b2, 0, none⟩) x.queue.length c2) (by rw [← e4]; rfl) (Below.refl _ _) rfl
  case refine_7 => exact fun h => absurd (by decide) h
  case refine_8 => exact fun _ h => absurd h (by simp)
  case refine_9 =>
    intro o ho vs lo hi W hB hv
    obtain rfl := Option.some.inj ho
    obtain ⟨⟨⟨g, c, ev⟩, h3⟩, g3, _, _⟩ := hv ⟨3, .data⟩ (by simp) rfl
    have ev : vs 3 = .slice (some ⟨g, 0, none⟩) x.roots.length c := ev
    have h3 : W.ownsRow (lo 3) 2 1 (vs 3) x.roots.length (intsV x.roots) := h3.1
    rw [ev] at h3
    have e5 : vs 5 = .slice (some ⟨b2, 0, none⟩) x.queue.length c2 := (hv ⟨5, .data⟩ (by simp) rfl).1
    have hT : TodoAt WB.heap.size W g 0 c x.roots := (TodoAt.of_own (own_mono h3 g3)).2
    refine wpList_append_todo rfl (.tmp 31) (.tmp 33) 23 rfl i9 Try.underlying23 hi9 hz9 hs9 hb9 WB.heap.size g 0 c x.roots ev hT (vs 5) x.queue rfl (by rw [e5]; exact hquB.out W hB) hB.size (by omega) ?_
    intro b' o' c' w' hT' hg' hb'
    refine wpList_nil ?_
    refine ⟨_, rfl, hB.grown hg' hB.size (fun j hj => by injection hj with hj; rw [← hj]; exact hT.lo), b', o', c', by rw [upd_same, List.length_append], hT'⟩
  case refine_10 => intro q c o hq; simp at hq
  case refine_11 =>
    intro o ho vs W hR hv
    obtain rfl := Option.some.inj ho
    obtain ⟨hB, tb, to, tc, e6, hT⟩ := hR
    have hBH : Hid (Below WB.heap.size WB W) := hB
    have hTH : Hid (TodoAt WB.heap.size W tb to tc (x.roots ++ x.queue)) := hT
    clear hB hT hv
    simp only [e6]
    have rW := rB.out W hBH.out
    have kW0 := rW 0 _ rfl
    simp only [Nat.add_zero] at kW0
    have hc8 : (0 : Int) ≤ x.objs.length := by omega
    clear k0 k1 k2 hcB hroB hquB hroH hquH ho
    obtain ⟨i8, hi8, hz8, hs8, hb8⟩ := info_parts (show (Try.prog.info? 4).map (fun i => (i.zero, i.size, i.bytes)) = some (some (.bool false), 1, 1) by kernel_rfl)
    go_upto_region 5 with fail
    go_wp2_with (refine wpList_make_full _ rfl (.tmp 37) (.tmp 37) 50 rfl W.heap.size 4 i8 (.bool false) 1 Try.underlying50 hi8 hz8 hs8 .i64 .i64 x.objs.length x.objs.length x.objs.length rfl rfl rfl rfl (by rw [hb8]; omega) (by unfold maxLen; omega) (Nat.le_refl _) ?_; intro w1 hown1 hgrow1)
    have hb1W : Below W.heap.size W w1 := (Below.refl _ _).grown hgrow1 (Nat.le_refl _) (fun k hk => by cases hk)
    have hLv0 : Hid (LvW w w1 [.slice (some ⟨b0, 0, none⟩) x.objs.length c0, .slice (some ⟨b1, 0, none⟩) x.roots.length c1, .slice (some ⟨b2, 0, none⟩) x.queue.length c2, .int .i64 x.from_, v4, v5] W.heap.size tb to tc (x.roots ++ x.queue) ob 0 [] (List.replicate x.objs.length false)) := by
      have hWs := hBH.out.size
      have h1 := hsB.out
      have h2 := (World.ownsRow.lt hoA.out ob rfl).2
      have h3 := hTH.out.hi
      have h4 := hTH.out.lo
      refine ⟨(hbW.out.trans (hBH.out.mono hbW.out.size)).trans (hb1W.mono (by omega)), fun j v hv => (hb1W.cell (p := ⟨w.heap.size, 0 + j, none⟩) (by show w.heap.size < _; omega)).trans (rW j v hv), by have := hb1W.size; omega, by omega, ⟨(World.ownsRow.lt hown1 _ rfl).2, fun j hj => ?_, fun j hj => World.ownsRow.frozenAt hown1 _⟩, (hTH.out.below hb1W).mono (by omega), (hoA.out.below hBH.out).below hb1W, by omega, by omega, by omega⟩
      have hj' : j < x.objs.length := by simpa using hj
      rw [World.ownsRow.cellAt hown1 j (by omega), show (Value.bool false).cells = #[Value.bool false] from rfl, toList_madeCells_one]
      simp [hj']
    have hSr0 : Hid (SrG x.objs (x.roots ++ x.queue) (x.roots ++ x.queue) (List.replicate x.objs.length false) [] none) := SrG.start _ _
    have hbd0 : Hid (wtG x.objs (List.replicate x.objs.length false) + (x.roots ++ x.queue).length ≤ 100000000000) := by
      have := wtG_le x.objs (List.replicate x.objs.length false) hsmH.out
      show _ ≤ _
      rw [List.length_append]
      omega
    have htv : Hid (Value.slice (some ⟨tb, to, none⟩) (x.roots.length + x.queue.length) tc = .slice (some ⟨tb, to, none⟩) (x.roots ++ x.queue).length tc) := by show _ = _; rw [List.length_append]
    generalize x.roots ++ x.queue = st at hLv0 hSr0 hbd0 hL hTH htv e6
    have hub : Hid (∃ u, u = W.heap.size) := ⟨_, rfl⟩
    clear hown1 hgrow1 hb1W hBH hTH rW kW0 rB hoA e6 hbW hsB i8 hi8 hz8 hs8 hb8
    generalize W.heap.size = ub at *
    go_loopw [3, 4] (fun ov tv wr => ∃ tb to tc todo ob oc out us, ov = .slice (some ⟨ob, 0, none⟩) (List.length out) oc ∧ tv = .slice (some ⟨tb, to, none⟩) (List.length todo) tc ∧ Hid (LvW w wr [.slice (some ⟨b0, 0, none⟩) x.objs.length c0, .slice (some ⟨b1, 0, none⟩) x.roots.length c1, .slice (some ⟨b2, 0, none⟩) x.queue.length c2, .int .i64 x.from_, v4, v5] ub tb to tc todo ob oc out us) ∧ Hid (SrG x.objs st todo us out none) ∧ Hid (wtG x.objs us + todo.length ≤ 100000000000)) (fun _ tv wr => wtW x.objs ub wr + lenV tv)
    case atStart => exact ⟨tb, to, tc, st, ob, 0, [], _, rfl, htv.out, hLv0, hSr0, hbd0⟩
    case round =>
      obtain ⟨tb, to, tc, todo, ob, oc, out, us, rfl, rfl, hLv, hSr, hbd⟩ := hrel
      clear hLv0 hSr0 hbd0 htv hub
      cases todo with
      | nil =>
        have hfin : Hid (out = L) := by show _ = _; rw [hL.out]; exact hSr.out.fin
        go_wp2
        go_ret
        rw [← hfin.out]
        exact ⟨_, rfl, out_ints hLv.out.out (by omega), hLv.out.hb⟩
      | cons z todo =>
        have kz : wr.cell? ⟨tb, to, none⟩ = some (.int .i64 z) := hLv.out.todo.cells 0 (by simp)
        have htc : todo.length + 1 ≤ tc := hLv.out.todo.cap
        have htc' : (todo.length : Int) + 1 ≤ tc := by omega
        have htc1 : (1 : Int) ≤ tc := by omega
        have htc2 : (1 : Int) ≤ (todo.length : Int) + 1 := by omega
        go_upto_region 9 with fail
        obtain ⟨to2, ht2, hLv2⟩ : ∃ to2, Hid ((if tc = 1 then some (⟨tb, to, none⟩ : Addr) else some ⟨tb, to + 1, none⟩) = some ⟨tb, to2, none⟩) ∧ Hid (LvW w wr [.slice (some ⟨b0, 0, none⟩) x.objs.length c0, .slice (some ⟨b1, 0, none⟩) x.roots.length c1, .slice (some ⟨b2, 0, none⟩) x.queue.length c2, .int .i64 x.from_, v4, v5] ub tb to2 (tc - 1) todo ob oc out us) := by
          by_cases h1 : tc = 1
          · have h2 : todo = [] := List.eq_nil_of_length_eq_zero (by omega)
            subst h2
            subst h1
            exact ⟨to, if_pos rfl, hLv.out.pop0⟩
          · exact ⟨to + 1, if_neg h1, hLv.out.pop⟩
        simp only [ht2.out]
        have hSr2 : Hid (SrG x.objs st todo us out (some (z, 0))) := hSr.out.pop
        have hwt : Hid (wtW x.objs ub wr = wtG x.objs us) := wtW_eq hLv.out.used hSr.out.len
        obtain ⟨M, hM⟩ : ∃ M, M = wtG x.objs us + todo.length := ⟨_, rfl⟩
        have hbd2 : Hid (M + 1 ≤ 100000000000) := by have := hbd.out; simp only [List.length_cons] at this; show _ ≤ _; omega
        have hM1 : Hid (wtG x.objs us + todo.length ≤ M) := by show _ ≤ _; omega
        have hMw : Hid (M + 1 = wtW x.objs ub wr + (todo.length + 1)) := by show _ = _; rw [hwt.out]; omega
        clear hM hwt kz htc htc' htc1 htc2 hbd ht2
        generalize tc - 1 = tc2 at *
        go_wp2_with fail
        go_loopw [3, 4, 7] (fun ov tv iv wr => ∃ m tb to tc todo ob oc out us, m ≤ x.objs.length ∧ iv = .int .i64 (m : Nat) ∧ ov = .slice (some ⟨ob, 0, none⟩) (List.length out) oc ∧ tv = .slice (some ⟨tb, to, none⟩) (List.length todo) tc ∧ Hid (LvW w wr [.slice (some ⟨b0, 0, none⟩) x.objs.length c0, .slice (some ⟨b1, 0, none⟩) x.roots.length c1, .slice (some ⟨b2, 0, none⟩) x.queue.length c2, .int .i64 x.from_, v4, v5] ub tb to tc todo ob oc out us) ∧ Hid (SrG x.objs st todo us out (some (z, m))) ∧ Hid (wtG x.objs us + todo.length ≤ M)) (fun _ _ iv _ => x.objs.length - (intOf iv).toNat)
        case atStart => exact ⟨0, tb, to2, tc2, todo, ob, oc, out, us, Nat.zero_le _, rfl, rfl, rfl, hLv2, hSr2, hM1⟩
        case round =>
          clear hLv hSr hLv2 hSr2 hM1
          obtain ⟨m, tb2, to2, tc2, todo2, ob2, oc2, out2, us2, hm, rfl, rfl, rfl, hLv, hSr, hM1⟩ := hrel
          have kW0 : wr.cell? ⟨w.heap.size, 0, none⟩ = some (.slice (some ⟨b0, 0, none⟩) x.objs.length c0) := hLv.out.box 0 _ rfl
          have hm0 : (0 : Int) ≤ m := by omega
          by_cases hlt : m < x.objs.length
          · have hlt' : (m : Int) < (x.objs.length : Int) := by omega
            obtain ⟨fb, fc, hfb, hG⟩ := hobH.out wr hLv.out.hb m hlt
            obtain ⟨o, ho⟩ : ∃ o, o = x.objs[m] := ⟨_, rfl⟩
            have hoH : Hid (x.objs[m] = o) := ho.symm
            rw [← ho] at hG
            clear ho
            have e0 := hG.c0
            have e1 := hG.c1
            have e2 := hG.c2
            have e3 := hG.c3
            have e4 := hG.c4
            have hGH : Hid (GobAt wr b0 m o fb fc) := hG
            clear hG
            go_upto_region 13 with fail
            have hLv5 : Hid (LvW w (wr.alloc (.cells #[.int .i64 o.id, .int .i64 o.adr, .int .i64 o.age, .int .i64 o.kind, .slice (some ⟨fb, 0, none⟩) o.flds.length fc] 52)) [.slice (some ⟨b0, 0, none⟩) x.objs.length c0, .slice (some ⟨b1, 0, none⟩) x.roots.length c1, .slice (some ⟨b2, 0, none⟩) x.queue.length c2, .int .i64 x.from_, v4, v5] ub tb2 to2 tc2 todo2 ob2 oc2 out2 us2) := hLv.out.on (below_1 _ _)
            have rO := rangeAt_heap (heap_alloc_new wr (.cells #[.int .i64 o.id, .int .i64 o.adr, .int .i64 o.age, .int .i64 o.kind, .slice (some ⟨fb, 0, none⟩) o.flds.length fc] 52))
            have hO5 : Hid (OAt (wr.alloc (.cells #[.int .i64 o.id, .int .i64 o.adr, .int .i64 o.age, .int .i64 o.kind, .slice (some ⟨fb, 0, none⟩) o.flds.length fc] 52)) wr.heap.size o fb fc) := ⟨by simp, rO 0 _ rfl, rO 3 _ rfl, rO 4 _ rfl⟩
            have hgu : Hid (wr.heap.size ≠ ub) := by have := hLv.out.used.hi; show _ ≠ _; omega
            have hfl : Hid (∀ W', Below w.heap.size w W' → ∀ j (hj : j < o.flds.length), W'.cell? ⟨fb, j, none⟩ = some (.int .i64 o.flds[j])) := fun W' hW' j hj => ((hW'.cell (p := ⟨fb, j, none⟩) hfb).trans (hLv.out.hb.cell (p := ⟨fb, j, none⟩) hfb).symm).trans (hGH.out.fl j hj)
            have hfc := hGH.out.cap
            clear e0 e1 e2 e3 e4 rO kW0 hLv
            clear hGH
            generalize wr.alloc (.cells #[.int .i64 o.id, .int .i64 o.adr, .int .i64 o.age, .int .i64 o.kind, .slice (some ⟨fb, 0, none⟩) o.flds.length fc] 52) = W5 at *
            generalize wr.heap.size = og at *
            have hml : m < us2.length := by rw [hSr.out.len]; exact hlt
            have e0 := hO5.out.c0
            have eu := hLv5.out.used.cells m hml
            have ef := hLv5.out.used.free m hml
            obtain ⟨ub_, hub_⟩ : ∃ q, q = us2[m] := ⟨_, rfl⟩
            have hubH : Hid (us2[m]? = some ub_) := by show _ = _; rw [hub_, List.getElem?_eq_getElem hml]
            rw [← hub_] at eu
            clear hub_ hml
            by_cases he : ¬ (o.id = z)
            · have hSr2 : Hid (SrG x.objs st todo2 us2 out2 (some (z, m + 1))) := hSr.out.skip hlt (.inl (by rw [hoH.out]; exact he))
              go_wp2
              go_roundw
              case rel =>
                refine ⟨_, _, _, _, _, _, _, _, _, _, _, _, _, _, _, _, _, _, _, _, _, _, _, _, _, _, _, _, _, _, _, _, _, _, _, _, _, _, _, _, _, _, _, _, _, _, _, _, _, _, _, _, _, _, _, _, _, _, _, _, ?_, rfl⟩
                exact ⟨m + 1, tb2, to2, tc2, todo2, ob2, oc2, out2, us2, by omega, by go_num, rfl, rfl, hLv5, hSr2, hM1⟩
              case measure => simp [intOf]; omega
            have he : o.id = z := Decidable.not_not.1 he
            by_cases hu : ub_ = true
            · have hSr2 : Hid (SrG x.objs st todo2 us2 out2 (some (z, m + 1))) := hSr.out.skip hlt (.inr (.inl (by rw [hubH.out, hu])))
              subst hu
              go_wp2
              go_roundw
              case rel => exact ⟨m + 1, tb2, to2, tc2, todo2, ob2, oc2, out2, us2, by omega, by go_num, rfl, rfl, hLv5, hSr2, hM1⟩
              case measure => simp [intOf]; omega
            have hu : ub_ = false := by simpa using hu
            subst hu
            by_cases hz0 : z = 0
            · have hSr2 : Hid (SrG x.objs st todo2 us2 out2 (some (z, m + 1))) := hSr.out.skip hlt (.inr (.inr hz0))
              go_wp2
              go_roundw
              case rel => exact ⟨m + 1, tb2, to2, tc2, todo2, ob2, oc2, out2, us2, by omega, by go_num, rfl, rfl, hLv5, hSr2, hM1⟩
              case measure => simp [intOf]; omega
            have hml : m < us2.length := by rw [hSr.out.len]; exact hlt
            have hSrT : Hid (SrG x.objs st (todo2 ++ outG o) (us2.set m true) (if z ∈ out2 then out2 else addI out2 z) (some (z, m + 1))) := by
              have := hSr.out.take hlt (by rw [hoH.out]; exact he) hz0
              rw [hoH.out] at this
              exact this
            have hMT : Hid (wtG x.objs (us2.set m true) + (todo2 ++ outG o).length ≤ M) := by
              have h1 := wtG_set hlt hubH.out
              rw [hoH.out] at h1
              have h2 := hM1.out
              show _ ≤ _
              rw [List.length_append]
              omega
            have hbdT : Hid (todo2.length + (outG o).length ≤ 1000000000000) := by
              have h1 := hMT.out
              have h2 := hbd2.out
              rw [List.length_append] at h1
              show _ ≤ _
              omega
            have hlen : out2.length ≤ 1048576 := by have := hSr.out.outlen; omega
            go_upto_region 15 with fail
            have hLv6 : Hid (LvW w (W5.setCell ⟨ub, m, none⟩ (.bool true)) [.slice (some ⟨b0, 0, none⟩) x.objs.length c0, .slice (some ⟨b1, 0, none⟩) x.roots.length c1, .slice (some ⟨b2, 0, none⟩) x.queue.length c2, .int .i64 x.from_, v4, v5] ub tb2 to2 tc2 todo2 ob2 oc2 out2 (us2.set m true)) := hLv5.out.mark hml
            have hO6 : Hid (OAt (W5.setCell ⟨ub, m, none⟩ (.bool true)) og o fb fc) := hO5.out.kept (Below.heap_setCell _ _ _ _ hgu.out) (by simp [World.setCell])
            clear e0 eu ef hLv5 hO5 hSr hM1 hml
            generalize W5.setCell ⟨ub, m, none⟩ (.bool true) = W6 at *
            by_cases hin : z ∈ out2
            · have cH : Hid (Calls Try.prog 22 #[.slice (some ⟨ob2, 0, none⟩) out2.length oc2, .int .i64 z] W6 fun e w' => e = .returned (.bool true) ∧ w' = W6) := by
                have := has_calls _ _ z W6 _ hLv6.out.out hlen
                rw [show decide (z ∈ out2) = true by simp [hin]] at this
                exact this
              have hSrT : Hid (SrG x.objs st (todo2 ++ outG o) (us2.set m true) out2 (some (z, m + 1))) := by have := hSrT.out; rwa [if_pos hin] at this
              have hLvt := hLv6
              have hOt := hO6
              go_upto_region 17 with (go_at_call 22; refine (show Calls _ _ _ _ _ from cH.out).mono ?_; rintro e W7 ⟨rfl, hW7⟩; rw [hW7]; clear hW7 W7)
              clear cH hLv6 hO6
              have t3 := hOt.out.c3
              have t4 := hOt.out.c4
              by_cases hk1 : 1 ≤ o.kind
              · by_cases hk2 : o.kind ≤ 3
                · have hout : Hid (outG o = o.flds.drop 1) := if_pos ⟨hk1, hk2⟩
                  by_cases hn : o.flds.length = 0
                  · have hn' : ¬ ((1 : Int) ≤ o.flds.length) := by omega
                    have hnil : Hid (outG o = []) := by show _ = _; rw [hout.out]; exact List.drop_eq_nil_of_le (by omega)
                    have hSrN : Hid (SrG x.objs st todo2 (us2.set m true) (out2) (some (z, m + 1))) := by have := hSrT.out; rwa [hnil.out, List.append_nil] at this
                    have hMN : Hid (wtG x.objs (us2.set m true) + todo2.length ≤ M) := by have := hMT.out; rwa [hnil.out, List.append_nil] at this
                    go_wp2_with (refine ⟨⟨_, _, _, _, _, _, _, _, _, _, _, _, _, _, _, _, _, _, _, _, _, _, _, _, _, _, _, _, _, _, _, _, _, _, _, _, _, _, _, _, _, _, _, _, _, _, _, _, _, _, _, _, _, _, _, _, _, _, _, _, ?_, rfl⟩, ?_⟩; exact ⟨m + 1, tb2, to2, tc2, todo2, ob2, oc2, out2, us2.set m true, by omega, by go_num, rfl, rfl, hLvt, hSrN, hMN⟩; (simp [intOf]; omega))
                  · have hn' : (1 : Int) ≤ o.flds.length := by omega
                    have hf' : (1 : Int) ≤ fc := by omega
                    have hf2 : (o.flds.length : Int) ≤ fc := by omega
                    have hs1 : Hid (∀ cc o1, (1 < o.flds.length → o1 = 1) → SrcAt W6 1 (.slice (some ⟨fb, o1, none⟩) (o.flds.length - 1) cc) (outG o).length (intsV (outG o))) := fun cc o1 h1 => by
                      have := src_cells (n := 0) (c := 0) (o := o1) (m := 1) (hfl.out _ hLvt.out.hb) (by omega) h1 cc
                      rw [hout.out, List.length_drop]
                      exact this
                    by_cases hf1 : fc = 1
                    · have hl1 : o.flds.length = 1 := by omega
                      have hs10 : Hid (SrcAt W6 1 (.slice (some ⟨fb, 0, none⟩) 0 0) (outG o).length (intsV (outG o))) := by have := hs1.out 0 0 (fun q => absurd q (by omega)); rwa [hl1] at this
                      subst hf1
                      go_upto_region 21 with fail
                      go_wp2_with (first | (refine wpList_append_todo rfl (.tmp 96) (.tmp 100) 23 rfl i9 Try.underlying23 hi9 hz9 hs9 hb9 (w.heap.size + 1) tb2 to2 tc2 todo2 rfl hLvt.out.todo (_) (outG o) rfl (by first | exact hs1.out _ _ (fun q => absurd q (by omega)) | exact hs10.out) (by have := hLvt.out.bx; omega) hbdT.out ?_; intro b9 o9 c9 W9 hT9 hg9 hn9; have hLv9 : Hid (LvW w W9 [.slice (some ⟨b0, 0, none⟩) x.objs.length c0, .slice (some ⟨b1, 0, none⟩) x.roots.length c1, .slice (some ⟨b2, 0, none⟩) x.queue.length c2, .int .i64 x.from_, v4, v5] ub b9 o9 c9 (todo2 ++ outG o) ob2 oc2 (out2) (us2.set m true)) := hLvt.out.push hg9 hT9 hn9; clear hT9 hg9 hn9 t3 t4) | (refine ⟨⟨_, _, _, _, _, _, _, _, _, _, _, _, _, _, _, _, _, _, _, _, _, _, _, _, _, _, _, _, _, _, _, _, _, _, _, _, _, _, _, _, _, _, _, _, _, _, _, _, _, _, _, _, _, _, _, _, _, _, _, _, ?_, rfl⟩, ?_⟩; exact ⟨m + 1, b9, o9, c9, todo2 ++ outG o, ob2, oc2, out2, us2.set m true, by omega, by go_num, rfl, by rw [List.length_append], hLv9, hSrT, hMT⟩; (simp [intOf]; omega)))
                    · go_upto_region 21 with fail
                      go_wp2_with (first | (refine wpList_append_todo rfl (.tmp 96) (.tmp 100) 23 rfl i9 Try.underlying23 hi9 hz9 hs9 hb9 (w.heap.size + 1) tb2 to2 tc2 todo2 rfl hLvt.out.todo (_) (outG o) rfl (hs1.out _ _ (fun _ => rfl)) (by have := hLvt.out.bx; omega) hbdT.out ?_; intro b9 o9 c9 W9 hT9 hg9 hn9; have hLv9 : Hid (LvW w W9 [.slice (some ⟨b0, 0, none⟩) x.objs.length c0, .slice (some ⟨b1, 0, none⟩) x.roots.length c1, .slice (some ⟨b2, 0, none⟩) x.queue.length c2, .int .i64 x.from_, v4, v5] ub b9 o9 c9 (todo2 ++ outG o) ob2 oc2 (out2) (us2.set m true)) := hLvt.out.push hg9 hT9 hn9; clear hT9 hg9 hn9 t3 t4) | (refine ⟨⟨_, _, _, _, _, _, _, _, _, _, _, _, _, _, _, _, _, _, _, _, _, _, _, _, _, _, _, _, _, _, _, _, _, _, _, _, _, _, _, _, _, _, _, _, _, _, _, _, _, _, _, _, _, _, _, _, _, _, _, _, ?_, rfl⟩, ?_⟩; exact ⟨m + 1, b9, o9, c9, todo2 ++ outG o, ob2, oc2, out2, us2.set m true, by omega, by go_num, rfl, by rw [List.length_append], hLv9, hSrT, hMT⟩; (simp [intOf]; omega)))
                · have hout : Hid (outG o = o.flds) := if_neg (fun q => hk2 q.2)
                  have hs0 : Hid (∀ cc, SrcAt W6 1 (.slice (some ⟨fb, 0, none⟩) o.flds.length cc) (outG o).length (intsV (outG o))) := fun cc => by
                    have := src_cells (n := 0) (c := 0) (o := 0) (m := 0) (hfl.out _ hLvt.out.hb) (by omega) (fun _ => rfl) cc
                    rw [hout.out]
                    simpa using this
                  have hf2 : (o.flds.length : Int) ≤ fc := by omega
                  have hf0 : (0 : Int) ≤ fc := by omega
                  have hn0 : (0 : Int) ≤ o.flds.length := by omega
                  by_cases hfz : fc = 0
                  · have hl0 : o.flds.length = 0 := by omega
                    have hs00 : Hid (SrcAt W6 1 (.slice (some ⟨fb, 0, none⟩) 0 0) (outG o).length (intsV (outG o))) := by have := hs0.out 0; rwa [hl0] at this
                    subst hfz
                    go_upto_region 21 with fail
                    go_wp2_with (first | (refine wpList_append_todo rfl (.tmp 96) (.tmp 100) 23 rfl i9 Try.underlying23 hi9 hz9 hs9 hb9 (w.heap.size + 1) tb2 to2 tc2 todo2 rfl hLvt.out.todo (_) (outG o) rfl (by first | exact hs0.out _ | exact hs00.out) (by have := hLvt.out.bx; omega) hbdT.out ?_; intro b9 o9 c9 W9 hT9 hg9 hn9; have hLv9 : Hid (LvW w W9 [.slice (some ⟨b0, 0, none⟩) x.objs.length c0, .slice (some ⟨b1, 0, none⟩) x.roots.length c1, .slice (some ⟨b2, 0, none⟩) x.queue.length c2, .int .i64 x.from_, v4, v5] ub b9 o9 c9 (todo2 ++ outG o) ob2 oc2 (out2) (us2.set m true)) := hLvt.out.push hg9 hT9 hn9; clear hT9 hg9 hn9 t3 t4) | (refine ⟨⟨_, _, _, _, _, _, _, _, _, _, _, _, _, _, _, _, _, _, _, _, _, _, _, _, _, _, _, _, _, _, _, _, _, _, _, _, _, _, _, _, _, _, _, _, _, _, _, _, _, _, _, _, _, _, _, _, _, _, _, _, ?_, rfl⟩, ?_⟩; exact ⟨m + 1, b9, o9, c9, todo2 ++ outG o, ob2, oc2, out2, us2.set m true, by omega, by go_num, rfl, by rw [List.length_append], hLv9, hSrT, hMT⟩; (simp [intOf]; omega)))
                  · go_upto_region 21 with fail
                    go_wp2_with (first | (refine wpList_append_todo rfl (.tmp 96) (.tmp 100) 23 rfl i9 Try.underlying23 hi9 hz9 hs9 hb9 (w.heap.size + 1) tb2 to2 tc2 todo2 rfl hLvt.out.todo (_) (outG o) rfl (hs0.out _) (by have := hLvt.out.bx; omega) hbdT.out ?_; intro b9 o9 c9 W9 hT9 hg9 hn9; have hLv9 : Hid (LvW w W9 [.slice (some ⟨b0, 0, none⟩) x.objs.length c0, .slice (some ⟨b1, 0, none⟩) x.roots.length c1, .slice (some ⟨b2, 0, none⟩) x.queue.length c2, .int .i64 x.from_, v4, v5] ub b9 o9 c9 (todo2 ++ outG o) ob2 oc2 (out2) (us2.set m true)) := hLvt.out.push hg9 hT9 hn9; clear hT9 hg9 hn9 t3 t4) | (refine ⟨⟨_, _, _, _, _, _, _, _, _, _, _, _, _, _, _, _, _, _, _, _, _, _, _, _, _, _, _, _, _, _, _, _, _, _, _, _, _, _, _, _, _, _, _, _, _, _, _, _, _, _, _, _, _, _, _, _, _, _, _, _, ?_, rfl⟩, ?_⟩; exact ⟨m + 1, b9, o9, c9, todo2 ++ outG o, ob2, oc2, out2, us2.set m true, by omega, by go_num, rfl, by rw [List.length_append], hLv9, hSrT, hMT⟩; (simp [intOf]; omega)))
              · have hout : Hid (outG o = o.flds) := if_neg (fun q => hk1 q.1)
                have hs0 : Hid (∀ cc, SrcAt W6 1 (.slice (some ⟨fb, 0, none⟩) o.flds.length cc) (outG o).length (intsV (outG o))) := fun cc => by
                  have := src_cells (n := 0) (c := 0) (o := 0) (m := 0) (hfl.out _ hLvt.out.hb) (by omega) (fun _ => rfl) cc
                  rw [hout.out]
                  simpa using this
                have hf2 : (o.flds.length : Int) ≤ fc := by omega
                have hf0 : (0 : Int) ≤ fc := by omega
                have hn0 : (0 : Int) ≤ o.flds.length := by omega
                by_cases hfz : fc = 0
                · have hl0 : o.flds.length = 0 := by omega
                  have hs00 : Hid (SrcAt W6 1 (.slice (some ⟨fb, 0, none⟩) 0 0) (outG o).length (intsV (outG o))) := by have := hs0.out 0; rwa [hl0] at this
                  subst hfz
                  go_upto_region 21 with fail
                  go_wp2_with (first | (refine wpList_append_todo rfl (.tmp 96) (.tmp 100) 23 rfl i9 Try.underlying23 hi9 hz9 hs9 hb9 (w.heap.size + 1) tb2 to2 tc2 todo2 rfl hLvt.out.todo (_) (outG o) rfl (by first | exact hs0.out _ | exact hs00.out) (by have := hLvt.out.bx; omega) hbdT.out ?_; intro b9 o9 c9 W9 hT9 hg9 hn9; have hLv9 : Hid (LvW w W9 [.slice (some ⟨b0, 0, none⟩) x.objs.length c0, .slice (some ⟨b1, 0, none⟩) x.roots.length c1, .slice (some ⟨b2, 0, none⟩) x.queue.length c2, .int .i64 x.from_, v4, v5] ub b9 o9 c9 (todo2 ++ outG o) ob2 oc2 (out2) (us2.set m true)) := hLvt.out.push hg9 hT9 hn9; clear hT9 hg9 hn9 t3 t4) | (refine ⟨⟨_, _, _, _, _, _, _, _, _, _, _, _, _, _, _, _, _, _, _, _, _, _, _, _, _, _, _, _, _, _, _, _, _, _, _, _, _, _, _, _, _, _, _, _, _, _, _, _, _, _, _, _, _, _, _, _, _, _, _, _, ?_, rfl⟩, ?_⟩; exact ⟨m + 1, b9, o9, c9, todo2 ++ outG o, ob2, oc2, out2, us2.set m true, by omega, by go_num, rfl, by rw [List.length_append], hLv9, hSrT, hMT⟩; (simp [intOf]; omega)))
                · go_upto_region 21 with fail
                  go_wp2_with (first | (refine wpList_append_todo rfl (.tmp 96) (.tmp 100) 23 rfl i9 Try.underlying23 hi9 hz9 hs9 hb9 (w.heap.size + 1) tb2 to2 tc2 todo2 rfl hLvt.out.todo (_) (outG o) rfl (hs0.out _) (by have := hLvt.out.bx; omega) hbdT.out ?_; intro b9 o9 c9 W9 hT9 hg9 hn9; have hLv9 : Hid (LvW w W9 [.slice (some ⟨b0, 0, none⟩) x.objs.length c0, .slice (some ⟨b1, 0, none⟩) x.roots.length c1, .slice (some ⟨b2, 0, none⟩) x.queue.length c2, .int .i64 x.from_, v4, v5] ub b9 o9 c9 (todo2 ++ outG o) ob2 oc2 (out2) (us2.set m true)) := hLvt.out.push hg9 hT9 hn9; clear hT9 hg9 hn9 t3 t4) | (refine ⟨⟨_, _, _, _, _, _, _, _, _, _, _, _, _, _, _, _, _, _, _, _, _, _, _, _, _, _, _, _, _, _, _, _, _, _, _, _, _, _, _, _, _, _, _, _, _, _, _, _, _, _, _, _, _, _, _, _, _, _, _, _, ?_, rfl⟩, ?_⟩; exact ⟨m + 1, b9, o9, c9, todo2 ++ outG o, ob2, oc2, out2, us2.set m true, by omega, by go_num, rfl, by rw [List.length_append], hLv9, hSrT, hMT⟩; (simp [intOf]; omega)))
            · have cH : Hid (Calls Try.prog 22 #[.slice (some ⟨ob2, 0, none⟩) out2.length oc2, .int .i64 z] W6 fun e w' => e = .returned (.bool false) ∧ w' = W6) := by
                have := has_calls _ _ z W6 _ hLv6.out.out hlen
                rw [show decide (z ∈ out2) = false by simp [hin]] at this
                exact this
              have cA := add_some ob2 oc2 out2 z W6 _ hLv6.out.out hlen
              have cAH : Hid (Calls Try.prog 23 #[.slice (some ⟨ob2, 0, none⟩) out2.length oc2, .int .i64 z] W6 fun e w' => (∃ g c, e = .returned (.slice (some ⟨g, 0, none⟩) (out2.length + 1) c) ∧ OutAt W6.heap.size w' (.slice (some ⟨g, 0, none⟩) (out2.length + 1) c) (addI out2 z)) ∧ Below W6.heap.size W6 w') := cA
              clear cA
              have hSrT : Hid (SrG x.objs st (todo2 ++ outG o) (us2.set m true) (addI out2 z) (some (z, m + 1))) := by have := hSrT.out; rwa [if_neg hin] at this
              go_upto_region 17 with (first | (go_at_call 22; refine (show Calls _ _ _ _ _ from cH.out).mono ?_; rintro e W7 ⟨rfl, hW7⟩; rw [hW7]; clear hW7 W7) | (go_at_call 23; refine (show Calls _ _ _ _ _ from cAH.out).mono ?_; rintro e W8 ⟨⟨g8, c8, rfl, hOut8⟩, hb8⟩; have hLvt : Hid (LvW w W8 [.slice (some ⟨b0, 0, none⟩) x.objs.length c0, .slice (some ⟨b1, 0, none⟩) x.roots.length c1, .slice (some ⟨b2, 0, none⟩) x.queue.length c2, .int .i64 x.from_, v4, v5] ub tb2 to2 tc2 todo2 g8 c8 (addI out2 z) (us2.set m true)) := hLv6.out.add hb8 (by rw [addI_length]; exact hOut8); have hOt : Hid (OAt W8 og o fb fc) := hO6.out.below hb8; clear hOut8 hb8))
              clear cH cAH hLv6 hO6
              have t3 := hOt.out.c3
              have t4 := hOt.out.c4
              by_cases hk1 : 1 ≤ o.kind
              · by_cases hk2 : o.kind ≤ 3
                · have hout : Hid (outG o = o.flds.drop 1) := if_pos ⟨hk1, hk2⟩
                  by_cases hn : o.flds.length = 0
                  · have hn' : ¬ ((1 : Int) ≤ o.flds.length) := by omega
                    have hnil : Hid (outG o = []) := by show _ = _; rw [hout.out]; exact List.drop_eq_nil_of_le (by omega)
                    have hSrN : Hid (SrG x.objs st todo2 (us2.set m true) (addI out2 z) (some (z, m + 1))) := by have := hSrT.out; rwa [hnil.out, List.append_nil] at this
                    have hMN : Hid (wtG x.objs (us2.set m true) + todo2.length ≤ M) := by have := hMT.out; rwa [hnil.out, List.append_nil] at this
                    go_wp2_with (refine ⟨⟨_, _, _, _, _, _, _, _, _, _, _, _, _, _, _, _, _, _, _, _, _, _, _, _, _, _, _, _, _, _, _, _, _, _, _, _, _, _, _, _, _, _, _, _, _, _, _, _, _, _, _, _, _, _, _, _, _, _, _, _, ?_, rfl⟩, ?_⟩; exact ⟨m + 1, tb2, to2, tc2, todo2, g8, c8, addI out2 z, us2.set m true, by omega, by go_num, by rw [addI_length], rfl, hLvt, hSrN, hMN⟩; (simp [intOf]; omega))
                  · have hn' : (1 : Int) ≤ o.flds.length := by omega
                    have hf' : (1 : Int) ≤ fc := by omega
                    have hf2 : (o.flds.length : Int) ≤ fc := by omega
                    have hs1 : Hid (∀ cc o1, (1 < o.flds.length → o1 = 1) → SrcAt W8 1 (.slice (some ⟨fb, o1, none⟩) (o.flds.length - 1) cc) (outG o).length (intsV (outG o))) := fun cc o1 h1 => by
                      have := src_cells (n := 0) (c := 0) (o := o1) (m := 1) (hfl.out _ hLvt.out.hb) (by omega) h1 cc
                      rw [hout.out, List.length_drop]
                      exact this
                    by_cases hf1 : fc = 1
                    · have hl1 : o.flds.length = 1 := by omega
                      have hs10 : Hid (SrcAt W8 1 (.slice (some ⟨fb, 0, none⟩) 0 0) (outG o).length (intsV (outG o))) := by have := hs1.out 0 0 (fun q => absurd q (by omega)); rwa [hl1] at this
                      subst hf1
                      go_upto_region 21 with fail
                      go_wp2_with (first | (refine wpList_append_todo rfl (.tmp 96) (.tmp 100) 23 rfl i9 Try.underlying23 hi9 hz9 hs9 hb9 (w.heap.size + 1) tb2 to2 tc2 todo2 rfl hLvt.out.todo (_) (outG o) rfl (by first | exact hs1.out _ _ (fun q => absurd q (by omega)) | exact hs10.out) (by have := hLvt.out.bx; omega) hbdT.out ?_; intro b9 o9 c9 W9 hT9 hg9 hn9; have hLv9 : Hid (LvW w W9 [.slice (some ⟨b0, 0, none⟩) x.objs.length c0, .slice (some ⟨b1, 0, none⟩) x.roots.length c1, .slice (some ⟨b2, 0, none⟩) x.queue.length c2, .int .i64 x.from_, v4, v5] ub b9 o9 c9 (todo2 ++ outG o) g8 c8 (addI out2 z) (us2.set m true)) := hLvt.out.push hg9 hT9 hn9; clear hT9 hg9 hn9 t3 t4) | (refine ⟨⟨_, _, _, _, _, _, _, _, _, _, _, _, _, _, _, _, _, _, _, _, _, _, _, _, _, _, _, _, _, _, _, _, _, _, _, _, _, _, _, _, _, _, _, _, _, _, _, _, _, _, _, _, _, _, _, _, _, _, _, _, ?_, rfl⟩, ?_⟩; exact ⟨m + 1, b9, o9, c9, todo2 ++ outG o, g8, c8, addI out2 z, us2.set m true, by omega, by go_num, by rw [addI_length], by rw [List.length_append], hLv9, hSrT, hMT⟩; (simp [intOf]; omega)))
                    · go_upto_region 21 with fail
                      go_wp2_with (first | (refine wpList_append_todo rfl (.tmp 96) (.tmp 100) 23 rfl i9 Try.underlying23 hi9 hz9 hs9 hb9 (w.heap.size + 1) tb2 to2 tc2 todo2 rfl hLvt.out.todo (_) (outG o) rfl (hs1.out _ _ (fun _ => rfl)) (by have := hLvt.out.bx; omega) hbdT.out ?_; intro b9 o9 c9 W9 hT9 hg9 hn9; have hLv9 : Hid (LvW w W9 [.slice (some ⟨b0, 0, none⟩) x.objs.length c0, .slice (some ⟨b1, 0, none⟩) x.roots.length c1, .slice (some ⟨b2, 0, none⟩) x.queue.length c2, .int .i64 x.from_, v4, v5] ub b9 o9 c9 (todo2 ++ outG o) g8 c8 (addI out2 z) (us2.set m true)) := hLvt.out.push hg9 hT9 hn9; clear hT9 hg9 hn9 t3 t4) | (refine ⟨⟨_, _, _, _, _, _, _, _, _, _, _, _, _, _, _, _, _, _, _, _, _, _, _, _, _, _, _, _, _, _, _, _, _, _, _, _, _, _, _, _, _, _, _, _, _, _, _, _, _, _, _, _, _, _, _, _, _, _, _, _, ?_, rfl⟩, ?_⟩; exact ⟨m + 1, b9, o9, c9, todo2 ++ outG o, g8, c8, addI out2 z, us2.set m true, by omega, by go_num, by rw [addI_length], by rw [List.length_append], hLv9, hSrT, hMT⟩; (simp [intOf]; omega)))
                · have hout : Hid (outG o = o.flds) := if_neg (fun q => hk2 q.2)
                  have hs0 : Hid (∀ cc, SrcAt W8 1 (.slice (some ⟨fb, 0, none⟩) o.flds.length cc) (outG o).length (intsV (outG o))) := fun cc => by
                    have := src_cells (n := 0) (c := 0) (o := 0) (m := 0) (hfl.out _ hLvt.out.hb) (by omega) (fun _ => rfl) cc
                    rw [hout.out]
                    simpa using this
                  have hf2 : (o.flds.length : Int) ≤ fc := by omega
                  have hf0 : (0 : Int) ≤ fc := by omega
                  have hn0 : (0 : Int) ≤ o.flds.length := by omega
                  by_cases hfz : fc = 0
                  · have hl0 : o.flds.length = 0 := by omega
                    have hs00 : Hid (SrcAt W8 1 (.slice (some ⟨fb, 0, none⟩) 0 0) (outG o).length (intsV (outG o))) := by have := hs0.out 0; rwa [hl0] at this
                    subst hfz
                    go_upto_region 21 with fail
                    go_wp2_with (first | (refine wpList_append_todo rfl (.tmp 96) (.tmp 100) 23 rfl i9 Try.underlying23 hi9 hz9 hs9 hb9 (w.heap.size + 1) tb2 to2 tc2 todo2 rfl hLvt.out.todo (_) (outG o) rfl (by first | exact hs0.out _ | exact hs00.out) (by have := hLvt.out.bx; omega) hbdT.out ?_; intro b9 o9 c9 W9 hT9 hg9 hn9; have hLv9 : Hid (LvW w W9 [.slice (some ⟨b0, 0, none⟩) x.objs.length c0, .slice (some ⟨b1, 0, none⟩) x.roots.length c1, .slice (some ⟨b2, 0, none⟩) x.queue.length c2, .int .i64 x.from_, v4, v5] ub b9 o9 c9 (todo2 ++ outG o) g8 c8 (addI out2 z) (us2.set m true)) := hLvt.out.push hg9 hT9 hn9; clear hT9 hg9 hn9 t3 t4) | (refine ⟨⟨_, _, _, _, _, _, _, _, _, _, _, _, _, _, _, _, _, _, _, _, _, _, _, _, _, _, _, _, _, _, _, _, _, _, _, _, _, _, _, _, _, _, _, _, _, _, _, _, _, _, _, _, _, _, _, _, _, _, _, _, ?_, rfl⟩, ?_⟩; exact ⟨m + 1, b9, o9, c9, todo2 ++ outG o, g8, c8, addI out2 z, us2.set m true, by omega, by go_num, by rw [addI_length], by rw [List.length_append], hLv9, hSrT, hMT⟩; (simp [intOf]; omega)))
                  · go_upto_region 21 with fail
                    go_wp2_with (first | (refine wpList_append_todo rfl (.tmp 96) (.tmp 100) 23 rfl i9 Try.underlying23 hi9 hz9 hs9 hb9 (w.heap.size + 1) tb2 to2 tc2 todo2 rfl hLvt.out.todo (_) (outG o) rfl (hs0.out _) (by have := hLvt.out.bx; omega) hbdT.out ?_; intro b9 o9 c9 W9 hT9 hg9 hn9; have hLv9 : Hid (LvW w W9 [.slice (some ⟨b0, 0, none⟩) x.objs.length c0, .slice (some ⟨b1, 0, none⟩) x.roots.length c1, .slice (some ⟨b2, 0, none⟩) x.queue.length c2, .int .i64 x.from_, v4, v5] ub b9 o9 c9 (todo2 ++ outG o) g8 c8 (addI out2 z) (us2.set m true)) := hLvt.out.push hg9 hT9 hn9; clear hT9 hg9 hn9 t3 t4) | (refine ⟨⟨_, _, _, _, _, _, _, _, _, _, _, _, _, _, _, _, _, _, _, _, _, _, _, _, _, _, _, _, _, _, _, _, _, _, _, _, _, _, _, _, _, _, _, _, _, _, _, _, _, _, _, _, _, _, _, _, _, _, _, _, ?_, rfl⟩, ?_⟩; exact ⟨m + 1, b9, o9, c9, todo2 ++ outG o, g8, c8, addI out2 z, us2.set m true, by omega, by go_num, by rw [addI_length], by rw [List.length_append], hLv9, hSrT, hMT⟩; (simp [intOf]; omega)))
              · have hout : Hid (outG o = o.flds) := if_neg (fun q => hk1 q.1)
                have hs0 : Hid (∀ cc, SrcAt W8 1 (.slice (some ⟨fb, 0, none⟩) o.flds.length cc) (outG o).length (intsV (outG o))) := fun cc => by
                  have := src_cells (n := 0) (c := 0) (o := 0) (m := 0) (hfl.out _ hLvt.out.hb) (by omega) (fun _ => rfl) cc
                  rw [hout.out]
                  simpa using this
                have hf2 : (o.flds.length : Int) ≤ fc := by omega
                have hf0 : (0 : Int) ≤ fc := by omega
                have hn0 : (0 : Int) ≤ o.flds.length := by omega
                by_cases hfz : fc = 0
                · have hl0 : o.flds.length = 0 := by omega
                  have hs00 : Hid (SrcAt W8 1 (.slice (some ⟨fb, 0, none⟩) 0 0) (outG o).length (intsV (outG o))) := by have := hs0.out 0; rwa [hl0] at this
                  subst hfz
                  go_upto_region 21 with fail
                  go_wp2_with (first | (refine wpList_append_todo rfl (.tmp 96) (.tmp 100) 23 rfl i9 Try.underlying23 hi9 hz9 hs9 hb9 (w.heap.size + 1) tb2 to2 tc2 todo2 rfl hLvt.out.todo (_) (outG o) rfl (by first | exact hs0.out _ | exact hs00.out) (by have := hLvt.out.bx; omega) hbdT.out ?_; intro b9 o9 c9 W9 hT9 hg9 hn9; have hLv9 : Hid (LvW w W9 [.slice (some ⟨b0, 0, none⟩) x.objs.length c0, .slice (some ⟨b1, 0, none⟩) x.roots.length c1, .slice (some ⟨b2, 0, none⟩) x.queue.length c2, .int .i64 x.from_, v4, v5] ub b9 o9 c9 (todo2 ++ outG o) g8 c8 (addI out2 z) (us2.set m true)) := hLvt.out.push hg9 hT9 hn9; clear hT9 hg9 hn9 t3 t4) | (refine ⟨⟨_, _, _, _, _, _, _, _, _, _, _, _, _, _, _, _, _, _, _, _, _, _, _, _, _, _, _, _, _, _, _, _, _, _, _, _, _, _, _, _, _, _, _, _, _, _, _, _, _, _, _, _, _, _, _, _, _, _, _, _, ?_, rfl⟩, ?_⟩; exact ⟨m + 1, b9, o9, c9, todo2 ++ outG o, g8, c8, addI out2 z, us2.set m true, by omega, by go_num, by rw [addI_length], by rw [List.length_append], hLv9, hSrT, hMT⟩; (simp [intOf]; omega)))
                · go_upto_region 21 with fail
                  go_wp2_with (first | (refine wpList_append_todo rfl (.tmp 96) (.tmp 100) 23 rfl i9 Try.underlying23 hi9 hz9 hs9 hb9 (w.heap.size + 1) tb2 to2 tc2 todo2 rfl hLvt.out.todo (_) (outG o) rfl (hs0.out _) (by have := hLvt.out.bx; omega) hbdT.out ?_; intro b9 o9 c9 W9 hT9 hg9 hn9; have hLv9 : Hid (LvW w W9 [.slice (some ⟨b0, 0, none⟩) x.objs.length c0, .slice (some ⟨b1, 0, none⟩) x.roots.length c1, .slice (some ⟨b2, 0, none⟩) x.queue.length c2, .int .i64 x.from_, v4, v5] ub b9 o9 c9 (todo2 ++ outG o) g8 c8 (addI out2 z) (us2.set m true)) := hLvt.out.push hg9 hT9 hn9; clear hT9 hg9 hn9 t3 t4) | (refine ⟨⟨_, _, _, _, _, _, _, _, _, _, _, _, _, _, _, _, _, _, _, _, _, _, _, _, _, _, _, _, _, _, _, _, _, _, _, _, _, _, _, _, _, _, _, _, _, _, _, _, _, _, _, _, _, _, _, _, _, _, _, _, ?_, rfl⟩, ?_⟩; exact ⟨m + 1, b9, o9, c9, todo2 ++ outG o, g8, c8, addI out2 z, us2.set m true, by omega, by go_num, by rw [addI_length], by rw [List.length_append], hLv9, hSrT, hMT⟩; (simp [intOf]; omega)))
          · have hge : ¬ ((m : Int) < (x.objs.length : Int)) := by omega
            have hSr2 : Hid (SrG x.objs st todo2 us2 out2 none) := hSr.out.close (by omega)
            go_wp2
            go_roundw
            case rel => exact ⟨tb2, to2, tc2, todo2, ob2, oc2, out2, us2, rfl, rfl, hLv, hSr2, by have := hM1.out; have := hbd2.out; show _ ≤ _; omega⟩
            case measure =>
              rw [wtW_eq hLv.out.used hSr.out.len]
              have h1 := hM1.out
              have h2 := hMw.out
              simp [lenV]
              omega
end Go.Proofs.Ytedpocgmfpaeeaa
