/- impl.MarkReached. -/
import Derived.Test.YtchcdlelaklnnaaMpC
import Derived.Test.YtchcdlelaklnnaaMtB
namespace Go.Proofs.Ytchcdlelaklnnaa
set_option linter.unusedVariables false
open Go.ChangeShapes Go.WideShapes Go.ChangeAt Go.RowKit

theorem list_choose {α : Type} (P : Nat → α → Prop) : ∀ (n : Nat), (∀ k, k < n → ∃ a, P k a) → ∃ l : List α, l.length = n ∧ ∀ k (hk : k < l.length), P k l[k]
  | 0, _ => ⟨[], rfl, fun k hk => absurd hk (by simp)⟩
  | n + 1, h => by
    obtain ⟨l, hl, hp⟩ := list_choose P n fun k hk => h k (by omega)
    obtain ⟨a, ha⟩ := h n (by omega)
    refine ⟨l ++ [a], by simp [hl], fun k hk => ?_⟩
    by_cases hk' : k < l.length
    · rw [List.getElem_append_left hk']
      exact hp k hk'
    · have e : k = l.length := by simp at hk; omega
      subst e
      rw [List.getElem_append_right (Nat.le_refl _)]
      simp only [Nat.sub_self, List.getElem_cons_zero]
      rw [hl]
      exact ha
/-- A plain object of the collector. -/
def gobOf (m : ObP) : GobL := ⟨m.id, 0, 0, 0, m.flds⟩
/-- What both answer. -/
noncomputable def markOf (x : HpM) : List Int := if x.rs.length > 8 ∨ x.os.length > 400 then [] else liveL (x.os.map gobOf) x.rs
def HpM.small (x : HpM) : Prop := x.os.length ≤ 1048576 ∧ x.rs.length ≤ 1048576 ∧ x.qs.length ≤ 1048576 ∧ ∀ y ∈ x.os, y.small
/-- The numbers of a heap are numbers of 64 bits. -/
structure HpM.rng (x : HpM) : Prop where
  objs : ∀ o ∈ x.os, Rng o.id ∧ ∀ z ∈ o.flds, Rng z
  roots : ∀ z ∈ x.rs, Rng z
/-- An object of the marker in memory. -/
structure PobAt (w : World) (b k : Nat) (o : ObP) (fb fc : Nat) : Prop where
  r : w.rangeAt b (k * 3) [.int .i64 o.id, .slice (some ⟨fb, 0, none⟩) o.flds.length fc, .int .i64 o.col]
  cap : o.flds.length ≤ fc
  fl : ∀ j (hj : j < o.flds.length), w.cell? ⟨fb, j, none⟩ = some (.int .i64 o.flds[j])
theorem PobAt.below {w w' : World} {B b k : Nat} {o : ObP} {fb fc : Nat} (h : PobAt w b k o fb fc) (hB : Below B w w') (hb : b < B) (hf : fb < B) : PobAt w' b k o fb fc :=
  ⟨fun j u hj => (hB.cell (p := ⟨b, _, none⟩) hb).trans (h.r j u hj), h.cap, fun j hj => (hB.cell (p := ⟨fb, _, none⟩) hf).trans (h.fl j hj)⟩
/-- The rows that impl.changed reads. -/
theorem mobs_rows {w : World} {a0 : Option Addr} {objs : List ObP} (h : ∀ k (hk : k < objs.length), ∃ b fb fc, a0 = some ⟨b, 0, none⟩ ∧ b < w.heap.size ∧ fb < w.heap.size ∧ PobAt w b k objs[k] fb fc) : ∃ ms : List MobV, ms.length = objs.length ∧ ∀ k (hk : k < ms.length) (hk' : k < objs.length), ∃ b, (a0 = some ⟨b, 0, none⟩ ∧ b < w.heap.size ∧ w.rangeAt b (k * 3) ms[k].row3) ∧ ∃ fb fc, fb < w.heap.size ∧ ms[k].id = objs[k].id ∧ ms[k].fa = some ⟨fb, 0, none⟩ ∧ ms[k].fn = objs[k].flds.length ∧ ms[k].fc = fc ∧ PobAt w b k objs[k] fb fc := by
  obtain ⟨ms, hl, hm⟩ := list_choose (α := MobV) (fun k m => ∀ hk : k < objs.length, ∃ b, (a0 = some ⟨b, 0, none⟩ ∧ b < w.heap.size ∧ w.rangeAt b (k * 3) m.row3) ∧ ∃ fb fc, fb < w.heap.size ∧ m.id = objs[k].id ∧ m.fa = some ⟨fb, 0, none⟩ ∧ m.fn = objs[k].flds.length ∧ m.fc = fc ∧ PobAt w b k objs[k] fb fc) objs.length fun k hk => by
    obtain ⟨b, fb, fc, ha, hb, hfb, hM⟩ := h k hk
    exact ⟨⟨objs[k].id, some ⟨fb, 0, none⟩, objs[k].flds.length, fc, objs[k].col⟩, fun _ => ⟨b, ⟨ha, hb, hM.r⟩, fb, fc, hfb, rfl, rfl, rfl, rfl, hM⟩⟩
  exact ⟨ms, hl, fun k hk hk' => hm k hk hk'⟩
/-- GcLive of what impl.changed gave. -/
theorem mark_live (x : HpM) (w W1 W2 : World) (a0 a1 : Option Addr) (c1 : Nat) (ms : List MobV) (hml : ms.length = x.os.length) (hB1 : Below w.heap.size w W1) (hB2 : Below W1.heap.size W1 W2) (hlt : W1.heap.size < W2.heap.size)
    (hms : ∀ k (hk : k < ms.length) (hk' : k < x.os.length), ∃ b, (a0 = some ⟨b, 0, none⟩ ∧ b < w.heap.size ∧ w.rangeAt b (k * 3) ms[k].row3) ∧ ∃ fb fc, fb < w.heap.size ∧ ms[k].id = x.os[k].id ∧ ms[k].fa = some ⟨fb, 0, none⟩ ∧ ms[k].fn = x.os[k].flds.length ∧ ms[k].fc = fc ∧ PobAt w b k x.os[k] fb fc)
    (hr5 : ∀ j (h : j < ms.length), W2.rangeAt W1.heap.size (j * 5) ms[j].row5) (hro : ∀ W, Below w.heap.size w W → SrcAt W 1 (.slice a1 x.rs.length c1) x.rs.length (intsV x.rs))
    (hsm : x.small) (hrn : x.rng) (hy : ¬ (x.rs.length > 8 ∨ x.os.length > 400)) :
    Calls Try.prog 20 #[.agg #[.slice (some ⟨W1.heap.size, 0, none⟩) ms.length ms.length, .slice a1 x.rs.length c1, .slice none 0 0, .int .i64 0, .slice none 0 0, .slice none 0 0]] W2 fun e w' => ∃ v, e = .returned v ∧ IntsAt W2.heap.size w'.heap.size w' v (liveL (x.os.map gobOf) x.rs) ∧ Below W2.heap.size W2 w' := by
  have s1 := hB1.size
  have s2 := hB2.size
  have hBw : Below w.heap.size w W2 := hB1.trans (hB2.mono s1)
  obtain ⟨y, hy1, hy2, hy3, hy4, hy5, hy6⟩ : ∃ y : GhpL, y.objs = x.os.map gobOf ∧ y.roots = x.rs ∧ y.queue = [] ∧ y.from_ = 0 ∧ y.tops = [] ∧ y.dirty = [] := ⟨⟨x.os.map gobOf, x.rs, [], 0, [], []⟩, rfl, rfl, rfl, rfl, rfl, rfl⟩
  have hyl : y.objs.length = ms.length := by rw [hy1, List.length_map, hml]
  have hA : ArgW y W2 W1.heap.size a1 c1 none 0 := by
    refine ⟨hlt, fun W hW k hk => ?_, fun W hW => ?_, fun W _ => .inl ⟨by rw [hy3]; rfl, by rw [hy3]; rfl, by rw [hy3]; rfl⟩, ⟨by rw [hy2]; omega, by omega, by rw [hy3]; simp⟩, ?_, ?_⟩
    · have hk' : k < x.os.length := by omega
      obtain ⟨_, _, fb, fc, hfb, e1, e2, e3, e4, hM⟩ := hms k (by omega) hk'
      have hr := hr5 k (by omega)
      have cc : ∀ j u, ms[k].row5[j]? = some u → W.cell? ⟨W1.heap.size, k * 5 + j, none⟩ = some u := fun j u hj => (hW.cell (p := ⟨W1.heap.size, _, none⟩) hlt).trans (hr j u hj)
      refine ⟨fb, fc, by omega, ?_⟩
      have e5 : y.objs[k] = gobOf x.os[k] := by simp [hy1]
      rw [e5]
      refine ⟨?_, cc 1 _ rfl, cc 2 _ rfl, cc 3 _ rfl, ?_, hM.cap, fun j hj => (hW.cell (p := ⟨fb, j, none⟩) (show fb < W2.heap.size by omega)).trans ((hBw.cell (p := ⟨fb, j, none⟩) hfb).trans (hM.fl j hj))⟩
      · have := cc 0 _ rfl
        rw [e1] at this
        exact this
      · have := cc 4 _ rfl
        rw [e2, e3, e4] at this
        exact this
    · rw [hy2]
      exact hro W (hB1.trans ((hB2.trans (hW.mono s2)).mono s1))
    · refine ⟨by rw [hyl, hml]; exact hsm.1, by rw [hy2]; exact hsm.2.1, by rw [hy3]; simp, by rw [hy5]; simp, by rw [hy6]; simp, fun y' hy' => ?_⟩
      rw [hy1] at hy'
      obtain ⟨m, hm, rfl⟩ := List.mem_map.1 hy'
      exact hsm.2.2.2 m hm
    · refine ⟨fun o ho => ?_, by rw [hy2]; exact hrn.roots, fun z hz => by rw [hy3] at hz; simp at hz⟩
      rw [hy1] at ho
      obtain ⟨m, hm, rfl⟩ := List.mem_map.1 ho
      exact hrn.objs m hm
  have key := implLive_gen y W2 W1.heap.size ms.length c1 0 a1 none (.slice none 0 0) (.slice none 0 0) hA (by omega)
  rw [hyl, hy1, hy2, hy3, hy4, List.append_nil, List.length_nil] at key
  exact key
set_option maxRecDepth 100000 in
set_option maxHeartbeats 2000000 in
theorem implMark_ok (x : HpM) (w : World) (c0 c1 c3 : Nat) (a0 a1 a3 : Option Addr) (hob : ∀ k (hk : k < x.os.length), ∃ b fb fc, a0 = some ⟨b, 0, none⟩ ∧ b < w.heap.size ∧ fb < w.heap.size ∧ PobAt w b k x.os[k] fb fc) (hro : ∀ W, Below w.heap.size w W → SrcAt W 1 (.slice a1 x.rs.length c1) x.rs.length (intsV x.rs)) (hsm : x.small) (hrn : x.rng) (hy : ¬ (x.rs.length > 8 ∨ x.os.length > 400)) :
    Calls Try.prog 8 #[.agg #[.slice a0 x.os.length c0, .slice a1 x.rs.length c1, .bool x.cyc, .slice a3 x.qs.length c3]] w fun e w' => ∃ v, e = .returned v ∧ IntsAt w.heap.size w'.heap.size w' v (liveL (x.os.map gobOf) x.rs) ∧ Below w.heap.size w w' := by
  have hfin : Hid (Below w.heap.size w (w.alloc (.cells #[.slice a0 x.os.length c0, .slice a1 x.rs.length c1, .bool x.cyc, .slice a3 x.qs.length c3] 34))) := below_1 _ _
  have h1' : ¬ (8 : Int) < x.rs.length := by omega
  have h2' : ¬ (400 : Int) < x.os.length := by omega
  have h2 : ¬ x.os.length > 400 := by omega
  have h1 : ¬ x.rs.length > 8 := by omega
  obtain ⟨ms, hml, hms⟩ := mobs_rows hob
  have hch : Hid (∀ W1, Below w.heap.size w W1 → Calls Try.prog 18 #[.slice a0 ms.length c0, .func (.func 19) #[] #[]] W1 fun e w' => e = .returned (.slice (some ⟨W1.heap.size, 0, none⟩) ms.length ms.length) ∧ W1.heap.size < w'.heap.size ∧ (∀ j (h : j < ms.length), w'.rangeAt W1.heap.size (j * 5) ms[j].row5) ∧ Below W1.heap.size W1 w') := fun W1 hW => changed_calls ms a0 c0 W1 (fun j hj => by
    obtain ⟨b, ⟨q1, q2, q3⟩, _⟩ := hms j hj (by omega)
    exact ⟨b, q1, by have := hW.size; omega, fun u v hu => (hW.cell (p := ⟨b, _, none⟩) q2).trans (q3 u v hu)⟩) (by omega)
  have hlv : Hid (∀ W1 W2, Below w.heap.size w W1 → Below W1.heap.size W1 W2 → W1.heap.size < W2.heap.size → (∀ j (h : j < ms.length), W2.rangeAt W1.heap.size (j * 5) ms[j].row5) → Calls Try.prog 20 #[.agg #[.slice (some ⟨W1.heap.size, 0, none⟩) ms.length ms.length, .slice a1 x.rs.length c1, .slice none 0 0, .int .i64 0, .slice none 0 0, .slice none 0 0]] W2 fun e w' => ∃ v, e = .returned v ∧ IntsAt W2.heap.size w'.heap.size w' v (liveL (x.os.map gobOf) x.rs) ∧ Below W2.heap.size W2 w') := fun W1 W2 p q r t => mark_live x w W1 W2 a0 a1 c1 ms hml p q r hms t hro hsm hrn hy
  have hr0 := rangeAt_heap (heap_alloc_new w (.cells #[.slice a0 x.os.length c0, .slice a1 x.rs.length c1, .bool x.cyc, .slice a3 x.qs.length c3] 34))
  have hs0 : w.heap.size < (w.alloc (.cells #[.slice a0 x.os.length c0, .slice a1 x.rs.length c1, .bool x.cyc, .slice a3 x.qs.length c3] 34)).heap.size := by simp
  rw [← hml] at hr0 hs0 h2' hfin ⊢
  clear hob hro hms hsm hrn hml
  generalize liveL (x.os.map gobOf) x.rs = LL at *
  go_enter Try.func8, Try.ntmps8
  go_upto_region 1 with fail
  obtain ⟨W1, hW1⟩ : ∃ W1, W1 = w.alloc (.cells #[.slice a0 ms.length c0, .slice a1 x.rs.length c1, .bool x.cyc, .slice a3 x.qs.length c3] 34) := ⟨_, rfl⟩
  rw [← hW1] at hr0 hs0 hfin ⊢
  have k0 : W1.cell? ⟨w.heap.size, 0, none⟩ = some (.slice a0 ms.length c0) := hr0 0 _ rfl
  have k1 : W1.cell? ⟨w.heap.size, 1, none⟩ = some (.slice a1 x.rs.length c1) := hr0 1 _ rfl
  have hs0H : Hid (w.heap.size < W1.heap.size) := hs0
  clear hW1 hr0 hs0
  go_wp2_with (first
    | (go_at_call 18; refine (show Calls _ _ _ _ _ from hch.out _ hfin.out).mono ?_; rintro e W2 ⟨rfl, q1, q2, q3⟩; have k2 : W2.cell? ⟨w.heap.size, 1, none⟩ = some (.slice a1 x.rs.length c1) := (q3.cell (p := ⟨w.heap.size, 1, none⟩) hs0H.out).trans k1; have hlc := hlv.out W1 W2 hfin.out q3 q1 q2; have hlcH : Hid (Calls Try.prog 20 _ W2 _) := hlc; have hB2 : Hid (Below W1.heap.size W1 W2) := q3; clear q1 q2 q3 hlc)
    | (go_at_call 20; fail))
  refine (show Calls _ _ _ _ _ from hlcH.out).mono ?_
  rintro e W3 ⟨v, rfl, hv, hb3⟩
  have hI : Hid (IntsAt w.heap.size W3.heap.size W3 v LL) := hv.mono (by have := hB2.out.size; have := hs0H.out; omega) (Nat.le_refl _)
  have hBB : Hid (Below w.heap.size w W3) := below_on2 hfin.out (below_on2 hB2.out hb3)
  clear hv hb3
  obtain ⟨va, vc, rfl⟩ := hI.out.form
  go_wp2
  go_ret
  exact ⟨_, rfl, hI.out, hBB.out⟩
end Go.Proofs.Ytchcdlelaklnnaa
