/- impl.MarkReached. -/
import Derived.Test.YtedpocgmfpaeeaaMpC
namespace Go.Proofs.Ytedpocgmfpaeeaa
set_option linter.unusedVariables false
open Go.ChangeShapes Go.WideShapes Go.ChangeAt Go.RowKit

theorem list_choose {α : Type} (P : Nat → α → Prop) : ∀ (n : Nat), (∀ k, k < n → ∃ a, P k a) → ∃ l : List α, l.length = n ∧ ∀ k (hk : k < l.length), P k l[k]
  | 0, _ => ⟨[], rfl, fun k hk => absurd hk (by simp)⟩
  | n + 1, h => by
    obtain ⟨l, hl, hp⟩ := list_choose P n fun k hk => h k (by omega)
    obtain ⟨a, ha⟩ := h n (by omega)
    refine ⟨l ++ [a], by simp [hl], fun k hk => ?_⟩
    by_cases hk' : k < l.length
    · rw [List.getElem_append_left hk']
      exact hp k hk'
    · have e : k = l.length := by simp at hk; omega
      subst e
      rw [List.getElem_append_right (Nat.le_refl _)]
      simp only [Nat.sub_self, List.getElem_cons_zero]
      rw [hl]
      exact ha
/-- A plain object of the collector. -/
def gobOf (m : MobL) : GobL := ⟨m.id, 0, 0, 0, m.flds⟩
/-- What both answer. -/
noncomputable def markOf (x : MhpL) : List Int := if x.roots.length > 8 ∨ x.objs.length > 400 then [] else liveL (x.objs.map gobOf) x.roots
/-- The numbers of a heap are numbers of 64 bits. -/
structure MhpL.rng (x : MhpL) : Prop where
  objs : ∀ o ∈ x.objs, Rng o.id ∧ ∀ z ∈ o.flds, Rng z
  roots : ∀ z ∈ x.roots, Rng z
/-- An object of the marker in memory. -/
structure MobAt (w : World) (b k : Nat) (o : MobL) (fb fc : Nat) : Prop where
  r : w.rangeAt b (k * 3) [.int .i64 o.id, .slice (some ⟨fb, 0, none⟩) o.flds.length fc, .int .i64 o.colour]
  cap : o.flds.length ≤ fc
  fl : ∀ j (hj : j < o.flds.length), w.cell? ⟨fb, j, none⟩ = some (.int .i64 o.flds[j])
theorem mobs_cells {lo hi : Nat} {W : World} {v : Value} {objs : List MobL} (h : ListAt MobR 3 true lo hi W v objs) : ∃ b c, v = .slice (some ⟨b, 0, none⟩) objs.length c ∧ objs.length ≤ c ∧ b < hi ∧ ∀ k (hk : k < objs.length), ∃ fb fc, fb < hi ∧ MobAt W b k objs[k] fb fc := by
  rcases h with ⟨e, _⟩ | ⟨b, off, c, rfl, _, hb, hown, hr⟩
  · cases e
  · obtain ⟨rfl, _, hc⟩ := hown rfl
    refine ⟨b, c, rfl, hc, hb, fun k hk => ?_⟩
    obtain ⟨row, _, hra, ⟨v, e, hv⟩, _⟩ := hr k hk
    subst e
    obtain ⟨fb, fc, rfl, hfc, hfb, hfl⟩ := ints_cells hv
    rw [Nat.zero_add] at hra
    exact ⟨fb, fc, hfb, hra, hfc, hfl⟩
theorem MobAt.below {w w' : World} {B b k : Nat} {o : MobL} {fb fc : Nat} (h : MobAt w b k o fb fc) (hB : Below B w w') (hb : b < B) (hf : fb < B) : MobAt w' b k o fb fc :=
  ⟨fun j u hj => (hB.cell (p := ⟨b, _, none⟩) hb).trans (h.r j u hj), h.cap, fun j hj => (hB.cell (p := ⟨fb, _, none⟩) hf).trans (h.fl j hj)⟩
/-- The rows that impl.changed reads. -/
theorem mobs_rows {w : World} {b hi : Nat} {objs : List MobL} (h : ∀ k (hk : k < objs.length), ∃ fb fc, fb < hi ∧ MobAt w b k objs[k] fb fc) : ∃ ms : List MobV, ms.length = objs.length ∧ ∀ k (hk : k < ms.length) (hk' : k < objs.length), w.rangeAt b (k * 3) ms[k].row3 ∧ ∃ fb fc, fb < hi ∧ ms[k].id = objs[k].id ∧ ms[k].fa = some ⟨fb, 0, none⟩ ∧ ms[k].fn = objs[k].flds.length ∧ ms[k].fc = fc ∧ MobAt w b k objs[k] fb fc := by
  obtain ⟨ms, hl, hm⟩ := list_choose (α := MobV) (fun k m => ∀ hk : k < objs.length, w.rangeAt b (k * 3) m.row3 ∧ ∃ fb fc, fb < hi ∧ m.id = objs[k].id ∧ m.fa = some ⟨fb, 0, none⟩ ∧ m.fn = objs[k].flds.length ∧ m.fc = fc ∧ MobAt w b k objs[k] fb fc) objs.length fun k hk => by
    obtain ⟨fb, fc, hfb, hM⟩ := h k hk
    exact ⟨⟨objs[k].id, some ⟨fb, 0, none⟩, objs[k].flds.length, fc, objs[k].colour⟩, fun _ => ⟨hM.r, fb, fc, hfb, rfl, rfl, rfl, rfl, hM⟩⟩
  exact ⟨ms, hl, fun k hk hk' => hm k hk hk'⟩
/-- GcLive of what impl.changed gave. -/
theorem mark_live (x : MhpL) (w W1 W2 : World) (b0 b1 c1 : Nat) (ms : List MobV) (hb0 : b0 < w.heap.size) (hb1 : b1 < w.heap.size) (hml : ms.length = x.objs.length) (hB1 : Below w.heap.size w W1) (hB2 : Below W1.heap.size W1 W2) (hlt : W1.heap.size < W2.heap.size)
    (hms : ∀ k (hk : k < ms.length) (hk' : k < x.objs.length), w.rangeAt b0 (k * 3) ms[k].row3 ∧ ∃ fb fc, fb < w.heap.size ∧ ms[k].id = x.objs[k].id ∧ ms[k].fa = some ⟨fb, 0, none⟩ ∧ ms[k].fn = x.objs[k].flds.length ∧ ms[k].fc = fc ∧ MobAt w b0 k x.objs[k] fb fc)
    (hr5 : ∀ j (h : j < ms.length), W2.rangeAt W1.heap.size (j * 5) ms[j].row5) (hro : ∀ j (hj : j < x.roots.length), w.cell? ⟨b1, j, none⟩ = some (.int .i64 x.roots[j]))
    (hsm : x.small) (hrn : x.rng) (hy : ¬ (x.roots.length > 8 ∨ x.objs.length > 400)) :
    Calls Try.prog 8 #[.agg #[.slice (some ⟨W1.heap.size, 0, none⟩) ms.length ms.length, .slice (some ⟨b1, 0, none⟩) x.roots.length c1, .slice none 0 0, .int .i64 0, .slice none 0 0, .slice none 0 0]] W2 fun e w' => ∃ v, e = .returned v ∧ IntsAt W2.heap.size w'.heap.size w' v (liveL (x.objs.map gobOf) x.roots) ∧ Below W2.heap.size W2 w' := by
  have s1 := hB1.size
  have s2 := hB2.size
  have hBw : Below w.heap.size w W2 := hB1.trans (hB2.mono s1)
  obtain ⟨y, hy1, hy2, hy3, hy4, hy5, hy6⟩ : ∃ y : GhpL, y.objs = x.objs.map gobOf ∧ y.roots = x.roots ∧ y.queue = [] ∧ y.from_ = 0 ∧ y.tops = [] ∧ y.dirty = [] := ⟨⟨x.objs.map gobOf, x.roots, [], 0, [], []⟩, rfl, rfl, rfl, rfl, rfl, rfl⟩
  have hyl : y.objs.length = ms.length := by rw [hy1, List.length_map, hml]
  have hA : ArgW y W2 W1.heap.size b1 none 0 := by
    refine ⟨⟨hlt, by omega⟩, fun W hW k hk => ?_, fun j hj => ?_, fun W _ => .inl ⟨by rw [hy3]; rfl, by rw [hy3]; rfl, by rw [hy3]; rfl⟩, ⟨by rw [hy2]; omega, by omega, by rw [hy3]; simp⟩, ?_, ?_⟩
    · have hk' : k < x.objs.length := by omega
      obtain ⟨_, fb, fc, hfb, e1, e2, e3, e4, hM⟩ := hms k (by omega) hk'
      have hr := hr5 k (by omega)
      have cc : ∀ j u, ms[k].row5[j]? = some u → W.cell? ⟨W1.heap.size, k * 5 + j, none⟩ = some u := fun j u hj => (hW.cell (p := ⟨W1.heap.size, _, none⟩) hlt).trans (hr j u hj)
      refine ⟨fb, fc, by omega, ?_⟩
      have e5 : y.objs[k] = gobOf x.objs[k] := by simp [hy1]
      rw [e5]
      refine ⟨?_, cc 1 _ rfl, cc 2 _ rfl, cc 3 _ rfl, ?_, hM.cap, fun j hj => (hW.cell (p := ⟨fb, j, none⟩) (show fb < W2.heap.size by omega)).trans ((hBw.cell (p := ⟨fb, j, none⟩) hfb).trans (hM.fl j hj))⟩
      · have := cc 0 _ rfl
        rw [e1] at this
        exact this
      · have := cc 4 _ rfl
        rw [e2, e3, e4] at this
        exact this
    · have hj' : j < x.roots.length := by rw [hy2] at hj; exact hj
      have e5 : y.roots[j] = x.roots[j] := by simp [hy2]
      rw [e5]
      exact (hBw.cell (p := ⟨b1, j, none⟩) hb1).trans (hro j hj')
    · refine ⟨by rw [hyl, hml]; exact hsm.1, by rw [hy2]; exact hsm.2.1, by rw [hy3]; simp, by rw [hy5]; simp, by rw [hy6]; simp, fun y' hy' => ?_⟩
      rw [hy1] at hy'
      obtain ⟨m, hm, rfl⟩ := List.mem_map.1 hy'
      exact hsm.2.2.2 m hm
    · refine ⟨fun o ho => ?_, by rw [hy2]; exact hrn.roots, fun z hz => by rw [hy3] at hz; simp at hz⟩
      rw [hy1] at ho
      obtain ⟨m, hm, rfl⟩ := List.mem_map.1 ho
      exact hrn.objs m hm
  have key := implLive_gen y W2 W1.heap.size b1 ms.length c1 0 none (.slice none 0 0) (.slice none 0 0) hA (by omega)
  rw [hyl, hy1, hy2, hy3, hy4, List.append_nil, List.length_nil] at key
  exact key
set_option maxRecDepth 100000 in
set_option maxHeartbeats 2000000 in
theorem implMark_calls (x : MhpL) (w : World) (row : List Value) (lo hi : Nat) (hhi : hi ≤ w.heap.size) (h : MhpO lo hi w row x) (hsm : x.small) (hrn : x.rng) : Calls Try.prog 17 #[.agg row.toArray] w fun e w' => ∃ v, e = .returned v ∧ IntsAt w.heap.size w'.heap.size w' v (markOf x) ∧ Below w.heap.size w w' := by
  obtain ⟨v0, v1, v3, rfl, g0, g1, g3⟩ := h
  obtain ⟨b0, c0, rfl, hc0, hb0, hob⟩ := mobs_cells g0
  obtain ⟨b1, c1, rfl, hc1, hb1, hro⟩ := ints_cells g1
  obtain ⟨a3, c3, rfl⟩ := g3.form
  unfold markOf
  have hfin : Hid (Below w.heap.size w (w.alloc (.cells #[.slice (some ⟨b0, 0, none⟩) x.objs.length c0, .slice (some ⟨b1, 0, none⟩) x.roots.length c1, .bool x.cycle, .slice a3 x.row_.length c3] 44))) := below_1 _ _
  by_cases h1 : x.roots.length > 8
  · have h1' : (8 : Int) < x.roots.length := by omega
    rw [if_pos (.inl h1)]
    clear hob hro g0 g1 g3
    go_enter Try.func17, Try.ntmps17
    go_wp2
    go_ret
    exact ⟨_, rfl, .inl ⟨rfl, none, 0, rfl⟩, hfin.out⟩
  · have h1' : ¬ (8 : Int) < x.roots.length := by omega
    by_cases h2 : x.objs.length > 400
    · have h2' : (400 : Int) < x.objs.length := by omega
      rw [if_pos (.inr h2)]
      clear hob hro g0 g1 g3
      go_enter Try.func17, Try.ntmps17
      go_wp2
      go_ret
      exact ⟨_, rfl, .inl ⟨rfl, none, 0, rfl⟩, hfin.out⟩
    · have h2' : ¬ (400 : Int) < x.objs.length := by omega
      have hy : ¬ (x.roots.length > 8 ∨ x.objs.length > 400) := by omega
      rw [if_neg hy]
      obtain ⟨ms, hml, hms⟩ := mobs_rows (hi := w.heap.size) (fun k hk => by
        obtain ⟨fb, fc, hfb, hM⟩ := hob k hk
        exact ⟨fb, fc, by omega, hM⟩)
      have hb0' : b0 < w.heap.size := by omega
      have hb1' : b1 < w.heap.size := by omega
      have hch : Hid (∀ W1, Below w.heap.size w W1 → Calls Try.prog 34 #[.slice (some ⟨b0, 0, none⟩) ms.length c0, .func (.func 35) #[] #[]] W1 fun e w' => e = .returned (.slice (some ⟨W1.heap.size, 0, none⟩) ms.length ms.length) ∧ W1.heap.size < w'.heap.size ∧ (∀ j (h : j < ms.length), w'.rangeAt W1.heap.size (j * 5) ms[j].row5) ∧ Below W1.heap.size W1 w') := fun W1 hW => changed_calls ms b0 c0 W1 (by have := hW.size; omega) (fun j hj u v hu => (hW.cell (p := ⟨b0, _, none⟩) hb0').trans ((hms j hj (by omega)).1 u v hu)) (by omega)
      have hlv : Hid (∀ W1 W2, Below w.heap.size w W1 → Below W1.heap.size W1 W2 → W1.heap.size < W2.heap.size → (∀ j (h : j < ms.length), W2.rangeAt W1.heap.size (j * 5) ms[j].row5) → Calls Try.prog 8 #[.agg #[.slice (some ⟨W1.heap.size, 0, none⟩) ms.length ms.length, .slice (some ⟨b1, 0, none⟩) x.roots.length c1, .slice none 0 0, .int .i64 0, .slice none 0 0, .slice none 0 0]] W2 fun e w' => ∃ v, e = .returned v ∧ IntsAt W2.heap.size w'.heap.size w' v (liveL (x.objs.map gobOf) x.roots) ∧ Below W2.heap.size W2 w') := fun W1 W2 p q r t => mark_live x w W1 W2 b0 b1 c1 ms hb0' hb1' hml p q r hms t hro hsm hrn hy
      have hr0 := rangeAt_heap (heap_alloc_new w (.cells #[.slice (some ⟨b0, 0, none⟩) x.objs.length c0, .slice (some ⟨b1, 0, none⟩) x.roots.length c1, .bool x.cycle, .slice a3 x.row_.length c3] 44))
      have hs0 : w.heap.size < (w.alloc (.cells #[.slice (some ⟨b0, 0, none⟩) x.objs.length c0, .slice (some ⟨b1, 0, none⟩) x.roots.length c1, .bool x.cycle, .slice a3 x.row_.length c3] 44)).heap.size := by simp
      rw [← hml] at hr0 hs0 h2' hfin ⊢
      clear hob hro g0 g1 g3 hms hsm hrn hc0 hc1 hml
      generalize liveL (x.objs.map gobOf) x.roots = LL at *
      go_enter Try.func17, Try.ntmps17
      go_upto_region 1 with fail
      obtain ⟨W1, hW1⟩ : ∃ W1, W1 = w.alloc (.cells #[.slice (some ⟨b0, 0, none⟩) ms.length c0, .slice (some ⟨b1, 0, none⟩) x.roots.length c1, .bool x.cycle, .slice a3 x.row_.length c3] 44) := ⟨_, rfl⟩
      rw [← hW1] at hr0 hs0 hfin ⊢
      have k0 : W1.cell? ⟨w.heap.size, 0, none⟩ = some (.slice (some ⟨b0, 0, none⟩) ms.length c0) := hr0 0 _ rfl
      have k1 : W1.cell? ⟨w.heap.size, 1, none⟩ = some (.slice (some ⟨b1, 0, none⟩) x.roots.length c1) := hr0 1 _ rfl
      have hs0H : Hid (w.heap.size < W1.heap.size) := hs0
      clear hW1 hr0 hs0
      go_wp2_with (first
        | (go_at_call 34; refine (show Calls _ _ _ _ _ from hch.out _ hfin.out).mono ?_; rintro e W2 ⟨rfl, q1, q2, q3⟩; have k2 : W2.cell? ⟨w.heap.size, 1, none⟩ = some (.slice (some ⟨b1, 0, none⟩) x.roots.length c1) := (q3.cell (p := ⟨w.heap.size, 1, none⟩) hs0H.out).trans k1; have hlc := hlv.out W1 W2 hfin.out q3 q1 q2; have hlcH : Hid (Calls Try.prog 8 _ W2 _) := hlc; have hB2 : Hid (Below W1.heap.size W1 W2) := q3; clear q1 q2 q3 hlc)
        | (go_at_call 8; fail))
      refine (show Calls _ _ _ _ _ from hlcH.out).mono ?_
      rintro e W3 ⟨v, rfl, hv, hb3⟩
      have hI : Hid (IntsAt w.heap.size W3.heap.size W3 v LL) := hv.mono (by have := hB2.out.size; have := hs0H.out; omega) (Nat.le_refl _)
      have hBB : Hid (Below w.heap.size w W3) := below_on2 hfin.out (below_on2 hB2.out hb3)
      clear hv hb3
      obtain ⟨va, vc, rfl⟩ := hI.out.form
      go_wp2
      go_ret
      exact ⟨_, rfl, hI.out, hBB.out⟩
end Go.Proofs.Ytedpocgmfpaeeaa
