/- Objects of the marker in memory, and the specification's heap. -/
import Derived.Test.YtcigiilhlealdaaGn
import Derived.Test.YtcigiilhlealdaaMkP
namespace Go.Proofs.Ytcigiilhlealdaa
set_option linter.unusedVariables false
open Go.ChangeShapes Go.WideShapes Go.ChangeAt Go.RowKit

theorem set_same {w : World} {b j : Nat} {cs : Array Value} {t : TypeId} (v : Value) (h : w.heap[b]? = some (.cells cs t (0, 0))) : (w.setCell ⟨b, j, none⟩ v).heap[b]? = some (.cells (cs.setIfInBounds j v) t (0, 0)) := by
  have hl : b < w.heap.size := (Array.getElem?_eq_some_iff.1 h).1
  have h2 := (Array.getElem?_eq_some_iff.1 h).2
  simp [World.setCell, hl, h2, Array.getElem_modify]
theorem set_other {w : World} {b j g : Nat} (v : Value) (hg : g ≠ b) : (w.setCell ⟨b, j, none⟩ v).heap[g]? = w.heap[g]? := Below.heap_setCell _ _ _ _ hg
theorem cell_of {w : World} {b j : Nat} {cs : Array Value} {t : TypeId} {fz : Nat × Nat} {v : Value} (h : w.heap[b]? = some (.cells cs t fz)) (hj : cs[j]? = some v) : w.cell? ⟨b, j, none⟩ = some v := by
  simp [World.cell?, h, hj]
theorem free_of {w : World} {b j : Nat} {cs : Array Value} {t : TypeId} (h : w.heap[b]? = some (.cells cs t (0, 0))) : w.frozen? ⟨b, j, none⟩ = false := by
  simp [World.frozen?, h]
/-- The blocks of F are as they were. -/
structure Keep (F : Nat → Prop) (w w' : World) : Prop where
  os : w'.os = w.os
  tape : w'.tape = w.tape
  output : w'.output = w.output
  size : w.heap.size ≤ w'.heap.size
  block : ∀ k, F k → w'.heap[k]? = w.heap[k]?
theorem Keep.refl (F : Nat → Prop) (w : World) : Keep F w w := ⟨rfl, rfl, rfl, Nat.le_refl _, fun _ _ => rfl⟩
theorem Keep.trans {F : Nat → Prop} {a b c : World} (h : Keep F a b) (k : Keep F b c) : Keep F a c :=
  ⟨k.os.trans h.os, k.tape.trans h.tape, k.output.trans h.output, Nat.le_trans h.size k.size, fun i hi => (k.block i hi).trans (h.block i hi)⟩
theorem Keep.mono {F G : Nat → Prop} {w w' : World} (h : Keep F w w') (hG : ∀ k, G k → F k) : Keep G w w' := ⟨h.os, h.tape, h.output, h.size, fun k hk => h.block k (hG k hk)⟩
theorem Keep.of {F : Nat → Prop} {w w' : World} (h : Below w.heap.size w w') (hF : ∀ k, F k → k < w.heap.size) : Keep F w w' := ⟨h.os, h.tape, h.output, h.size, fun k hk => h.block k (hF k hk)⟩
theorem Keep.to {F : Nat → Prop} {B : Nat} {w w' : World} (h : Keep F w w') (hF : ∀ k, k < B → F k) : Below B w w' := ⟨h.os, h.tape, h.output, h.size, fun k hk => h.block k (hF k hk)⟩
theorem Keep.setCell {F : Nat → Prop} {a w : World} (h : Keep F a w) {p : Addr} (hp : ¬ F p.block) (u : Value) : Keep F a (w.setCell p u) := ⟨h.os, h.tape, h.output, by simpa [World.setCell] using h.size, fun k hk => by
  rw [Below.heap_setCell _ _ _ _ (fun e => hp (e ▸ hk))]
  exact h.block k hk⟩
theorem Keep.cell {F : Nat → Prop} {w w' : World} (h : Keep F w w') {p : Addr} (hp : F p.block) : w'.cell? p = w.cell? p := World.cell?_of_block (w := w) (h.block p.block hp)
theorem Keep.frozen {F : Nat → Prop} {w w' : World} (h : Keep F w w') {p : Addr} (hp : F p.block) : w'.frozen? p = w.frozen? p := World.frozen?_of_block (w := w) (h.block p.block hp)
/-- An object. -/
structure ObAt (w : World) (p f : Nat) (id : Int) (o : ObM) : Prop where
  blk : w.heap[p]? = some (.cells #[.int .i64 id, .slice (some ⟨f, 0, none⟩) o.flds.length o.flds.length, .int .i64 o.col] 62 (0, 0))
  row : w.heap[f]? = some (.cells (intsV o.flds).toArray 2 (0, 0))
/-- All objects that were made. -/
structure ObsAt (w : World) (F : Nat → Prop) (ps fs : List Nat) (obs : List ObM) : Prop where
  lp : ps.length = obs.length
  lf : fs.length = obs.length
  at_ : ∀ i o, obs[i]? = some o → ObAt w (ps.getD i 0) (fs.getD i 0) ((i : Int) + 1) o
  nd : fs.Nodup
  lo : (∀ p ∈ ps, ¬ F p) ∧ ∀ f ∈ fs, ¬ F f
theorem ObsAt.get {w : World} {F : Nat → Prop} {ps fs : List Nat} {obs : List ObM} (h : ObsAt w F ps fs obs) {z : Int} {o : ObM} (hg : getM obs z = some o) : ObAt w (ps.getD (z.toNat - 1) 0) (fs.getD (z.toNat - 1) 0) z o := by
  obtain ⟨h1, h2, _⟩ := getM_some.1 hg
  have := h.at_ _ _ h2
  rwa [show ((z.toNat - 1 : Nat) : Int) + 1 = z by omega] at this
theorem ObsAt.kept {w w' : World} {F : Nat → Prop} {ps fs : List Nat} {obs : List ObM} (h : ObsAt w F ps fs obs) (hk : ∀ k cs t, w.heap[k]? = some (.cells cs t (0, 0)) → (t = 62 ∨ t = 2 ∧ k ∈ fs) → w'.heap[k]? = w.heap[k]?) : ObsAt w' F ps fs obs := by
  refine ⟨h.lp, h.lf, fun i o ho => ?_, h.nd, h.lo⟩
  have a := h.at_ i o ho
  have hi := (List.getElem?_eq_some_iff.1 ho).1
  refine ⟨(hk _ _ _ a.blk (.inl rfl)).trans a.blk, (hk _ _ _ a.row (.inr ⟨rfl, ?_⟩)).trans a.row⟩
  rw [List.getD_eq_getElem?_getD, List.getElem?_eq_getElem (by rw [h.lf]; exact hi)]
  exact List.getElem_mem _
theorem ObsAt.below {w w' : World} {F : Nat → Prop} {ps fs : List Nat} {obs : List ObM} (h : ObsAt w F ps fs obs) (hb : Below w.heap.size w w') : ObsAt w' F ps fs obs :=
  h.kept fun k cs t hk _ => hb.block k (Array.getElem?_eq_some_iff.1 hk).1
/-- Another colour. -/
theorem ObsAt.colour {w : World} {F : Nat → Prop} {ps fs : List Nat} {obs : List ObM} (h : ObsAt w F ps fs obs) {z : Int} {o : ObM} (hg : getM obs z = some o) (c : Int) : ObsAt (w.setCell ⟨ps.getD (z.toNat - 1) 0, 2, none⟩ (.int .i64 c)) F ps fs (setCol obs z c) := by
  have a := h.get hg
  obtain ⟨h1, h2, _⟩ := getM_some.1 hg
  refine ⟨by rw [setCol_length]; exact h.lp, by rw [setCol_length]; exact h.lf, fun i x hx => ?_, h.nd, h.lo⟩
  unfold setCol at hx
  rw [List.getElem?_modify] at hx
  by_cases e : z.toNat - 1 = i
  · subst e
    rw [h2] at hx
    simp at hx
    subst hx
    have ei : ((z.toNat - 1 : Nat) : Int) + 1 = z := by omega
    rw [ei]
    refine ⟨?_, ?_⟩
    · rw [set_same _ a.blk]
      rfl
    · rw [set_other _ (fun q => ?_)]
      · exact a.row
      · rw [q] at a
        have := a.blk.symm.trans a.row
        simp only [Option.some.injEq, Obj.cells.injEq] at this
        exact absurd this.2.1 (by decide)
  · cases hxi : obs[i]? with
    | none => rw [hxi] at hx; simp at hx
    | some y =>
      rw [hxi] at hx
      simp [e] at hx
      subst hx
      have b := h.at_ i y hxi
      refine ⟨?_, ?_⟩
      · rw [set_other _ (fun q => ?_)]
        · exact b.blk
        · have b1 := b.blk
          rw [q] at b1
          have := b1.symm.trans a.blk
          simp only [Option.some.injEq, Obj.cells.injEq] at this
          have := this.1
          simp at this
          omega
      · rw [set_other _ (fun q => ?_)]
        · exact b.row
        · have b1 := b.row
          rw [q] at b1
          have := b1.symm.trans a.blk
          simp only [Option.some.injEq, Obj.cells.injEq] at this
          exact absurd this.2.1 (by decide)
/-- Which objects are there. -/
def therL (obs : List ObM) : List Nat := (List.range obs.length).filter fun i => ((obs[i]?).map ObM.there).getD false
theorem mem_therL {obs : List ObM} {i : Nat} : i ∈ therL obs ↔ ∃ o, obs[i]? = some o ∧ o.there = true := by
  unfold therL
  simp only [List.mem_filter, List.mem_range]
  constructor
  · rintro ⟨h1, h2⟩
    rw [List.getElem?_eq_getElem h1] at h2
    exact ⟨obs[i], List.getElem?_eq_getElem h1, by simpa using h2⟩
  · rintro ⟨o, h1, h2⟩
    exact ⟨(List.getElem?_eq_some_iff.1 h1).1, by rw [h1]; simpa using h2⟩
theorem therL_len (obs : List ObM) : (therL obs).length ≤ obs.length := by
  have := List.length_filter_le (fun i => ((obs[i]?).map ObM.there).getD false) (List.range obs.length)
  simpa [therL] using this
theorem therL_get {obs : List ObM} {i : Nat} (h : i ∈ therL obs) : ∃ o, getM obs ((i : Int) + 1) = some o ∧ obs[i]? = some o := by
  obtain ⟨o, h1, h2⟩ := mem_therL.1 h
  exact ⟨o, getM_some.2 ⟨by omega, by rw [show ((i : Int) + 1).toNat - 1 = i by omega]; exact h1, h2⟩, h1⟩
theorem getM_ther {obs : List ObM} {z : Int} {o : ObM} (h : getM obs z = some o) : z.toNat - 1 ∈ therL obs ∧ 1 ≤ z := by
  obtain ⟨h1, h2, h3⟩ := getM_some.1 h
  exact ⟨mem_therL.2 ⟨o, h2, h3⟩, h1⟩
def ptrsP (ps ix : List Nat) : List Value := ix.map fun i => .pointer (some ⟨ps.getD i 0, 0, none⟩)
/-- The specification's heap in memory. -/
structure SpW (w : World) (F : Nat → Prop) (H : Nat) (s : StM) (ps fs : List Nat) (ov : Value) (R : Nat) (qv : Value) : Prop where
  ob : ObsAt w F ps fs s.obs
  blk : w.heap[H]? = some (.cells #[.int .i64 s.mode, ov, .slice (some ⟨R, 0, none⟩) 8 8, .bool s.cyc, qv, .int .i64 s.obs.length] 66 (0, 0))
  ow : w.ownsRow 0 67 1 ov (therL s.obs).length (ptrsP ps (therL s.obs))
  rt : w.heap[R]? = some (.cells (intsV s.roots).toArray 2 (0, 0))
  ro : OutAt 0 w qv s.row
  n1 : R ∉ fs
  n2 : qv.ownBlock ≠ some R
  n3 : ∀ f ∈ fs, qv.ownBlock ≠ some f
  lo : ¬ F H ∧ ¬ F R ∧ ∀ k, F k → k < w.heap.size
  fo : (∀ k, ov.ownBlock = some k → ¬ F k) ∧ ∀ k, qv.ownBlock = some k → ¬ F k
set_option maxRecDepth 100000 in
set_option maxHeartbeats 1000000 in
theorem get_calls (w : World) (F : Nat → Prop) (H : Nat) (s : StM) (ps fs : List Nat) (ov : Value) (R : Nat) (qv : Value) (z : Int) (h : SpW w F H s ps fs ov R qv) (hl : s.obs.length ≤ 400) :
    Calls Try.prog 75 #[.pointer (some ⟨H, 0, none⟩), .int .i64 z] w fun e w' => (getM s.obs z ≠ none → e = .returned (.tuple #[.pointer (some ⟨ps.getD (z.toNat - 1) 0, 0, none⟩), .bool true]) ∧ w' = w) ∧ (getM s.obs z = none → (∃ g, e = .returned (.tuple #[.pointer (some ⟨g, 0, none⟩), .bool false])) ∧ Below w.heap.size w w') := by
  have k1 : w.cell? ⟨H, 1, none⟩ = some ov := cell_of h.blk rfl
  have hH : Hid (SpW w F H s ps fs ov R qv) := h
  obtain ⟨oa, oc, rfl⟩ := own_slice h.ow
  have hll : (therL s.obs).length ≤ 400 := Nat.le_trans (therL_len _) hl
  have hll' : ((therL s.obs).length : Int) ≤ 400 := by omega
  have hat : Hid (∀ m (hm : m < (therL s.obs).length), ∃ g, oa = some ⟨g, 0, none⟩ ∧ w.cell? ⟨g, m, none⟩ = some (.pointer (some ⟨ps.getD ((therL s.obs)[m]) 0, 0, none⟩)) ∧ w.cell? ⟨ps.getD ((therL s.obs)[m]) 0, 0, none⟩ = some (.int .i64 (((therL s.obs)[m] : Nat) + 1))) := fun m hm => by
    obtain ⟨g, c, e⟩ := own_some h.ow (by omega)
    injection e with e1 e2 e3
    subst e1
    have hcell := World.ownsRow.cellAt h.ow m (by omega)
    refine ⟨g, rfl, ?_, ?_⟩
    · rw [hcell]
      simp [ptrsP, hm]
    · obtain ⟨o, ho, ho2⟩ := therL_get (List.getElem_mem hm)
      exact cell_of (h.ob.at_ _ _ ho2).blk rfl
  clear h
  go_enter Try.func75, Try.ntmps75
  go_wp2
  go_loopw [6] (fun i wr => ∃ m : Nat, m ≤ (therL s.obs).length ∧ i = .int .i64 m ∧ wr = w ∧ Hid (∀ k (hk : k < (therL s.obs).length), k < m → (((therL s.obs)[k] : Nat) : Int) + 1 ≠ z)) (fun i _ => (therL s.obs).length - (intOf i).toNat)
  case atStart => exact ⟨0, Nat.zero_le _, rfl, rfl, fun k _ hk => absurd hk (by omega)⟩
  case round =>
    obtain ⟨m, hm, rfl, hw, hno⟩ := hrel
    have hw2 := hw.symm
    subst hw2
    clear hw
    have hm0 : (0 : Int) ≤ m := by omega
    by_cases hlt : m < (therL s.obs).length
    · have hlt' : (m : Int) < ((therL s.obs).length : Int) := by omega
      obtain ⟨g, rfl, q1, q2⟩ := hat.out m hlt
      by_cases he : (((therL s.obs)[m] : Nat) : Int) + 1 = z
      · have hz : Hid (getM s.obs z ≠ none ∧ (therL s.obs)[m] = z.toNat - 1) := by
          obtain ⟨o, ho, _⟩ := therL_get (List.getElem_mem hlt)
          rw [he] at ho
          exact ⟨by rw [ho]; simp, by omega⟩
        rw [he] at q2
        rw [hz.out.2] at q1 q2
        clear he
        obtain ⟨pp, hpp⟩ : ∃ pp, pp = ps.getD (z.toNat - 1) 0 := ⟨_, rfl⟩
        have hppH : Hid (pp = ps.getD (z.toNat - 1) 0) := hpp
        rw [← hpp] at q1 q2
        clear hpp
        go_wp2
        go_ret2
        exact ⟨fun _ => ⟨by rw [← hppH.out]; rfl, rfl⟩, fun q => absurd q hz.out.1⟩
      · have hno2 : Hid (∀ k (hk : k < (therL s.obs).length), k < m + 1 → (((therL s.obs)[k] : Nat) : Int) + 1 ≠ z) := fun k hk hkm => by
          by_cases e : k = m
          · subst e; exact he
          · exact hno.out k hk (by omega)
        have he2 : ¬ ((((therL s.obs)[m] : Nat) : Int) + 1 = z) := he
        generalize (therL s.obs)[m] = ix at q1 q2 he he2
        generalize ps.getD ix 0 = pp at q1 q2
        clear hno
        go_wp2
        go_roundw
        case rel => exact ⟨m + 1, by omega, by go_num, by first | trivial | rfl, hno2⟩
        case measure => simp [intOf]; omega
    · have hge : ¬ ((m : Int) < ((therL s.obs).length : Int)) := by omega
      have hnone : Hid (getM s.obs z = none) := by
        cases hg : getM s.obs z with
        | none => rfl
        | some o =>
          obtain ⟨h1, h2⟩ := getM_ther hg
          obtain ⟨k, hk, e⟩ := List.mem_iff_getElem.1 h1
          exact absurd (by rw [e]; omega) (hno.out k hk (by omega))
      clear hno
      go_wp2
      go_ret2
      exact ⟨fun q => absurd hnone.out q, fun _ => ⟨⟨_, rfl⟩, below_1 _ _⟩⟩
end Go.Proofs.Ytcigiilhlealdaa
