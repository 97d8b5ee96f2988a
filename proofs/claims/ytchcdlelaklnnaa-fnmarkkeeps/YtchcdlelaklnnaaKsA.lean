/- Objects of the marker in memory, and the specification's heap. -/
import Derived.Test.YtchcdlelaklnnaaGn
import Derived.Test.YtchcdlelaklnnaaMkP
namespace Go.Proofs.Ytchcdlelaklnnaa
set_option linter.unusedVariables false
open Go.ChangeShapes Go.WideShapes Go.ChangeAt Go.RowKit

theorem set_same {w : World} {b j : Nat} {cs : Array Value} {t : TypeId} (v : Value) (h : w.heap[b]? = some (.cells cs t (0, 0))) : (w.setCell ⟨b, j, none⟩ v).heap[b]? = some (.cells (cs.setIfInBounds j v) t (0, 0)) := by
  have hl : b < w.heap.size := (Array.getElem?_eq_some_iff.1 h).1
  have h2 := (Array.getElem?_eq_some_iff.1 h).2
  simp [World.setCell, hl, h2, Array.getElem_modify]
theorem set_other {w : World} {b j g : Nat} (v : Value) (hg : g ≠ b) : (w.setCell ⟨b, j, none⟩ v).heap[g]? = w.heap[g]? := Below.heap_setCell _ _ _ _ hg
theorem cell_of {w : World} {b j : Nat} {cs : Array Value} {t : TypeId} {fz : Nat × Nat} {v : Value} (h : w.heap[b]? = some (.cells cs t fz)) (hj : cs[j]? = some v) : w.cell? ⟨b, j, none⟩ = some v := by
  simp [World.cell?, h, hj]
theorem free_of {w : World} {b j : Nat} {cs : Array Value} {t : TypeId} (h : w.heap[b]? = some (.cells cs t (0, 0))) : w.frozen? ⟨b, j, none⟩ = false := by
  simp [World.frozen?, h]
/-- The blocks of F are as they were. -/
structure Keep (F : Nat → Prop) (w w' : World) : Prop where
  os : w'.os = w.os
  tape : w'.tape = w.tape
  output : w'.output = w.output
  size : w.heap.size ≤ w'.heap.size
  block : ∀ k, F k → w'.heap[k]? = w.heap[k]?
theorem Keep.refl (F : Nat → Prop) (w : World) : Keep F w w := ⟨rfl, rfl, rfl, Nat.le_refl _, fun _ _ => rfl⟩
theorem Keep.trans {F : Nat → Prop} {a b c : World} (h : Keep F a b) (k : Keep F b c) : Keep F a c :=
  ⟨k.os.trans h.os, k.tape.trans h.tape, k.output.trans h.output, Nat.le_trans h.size k.size, fun i hi => (k.block i hi).trans (h.block i hi)⟩
theorem Keep.mono {F G : Nat → Prop} {w w' : World} (h : Keep F w w') (hG : ∀ k, G k → F k) : Keep G w w' := ⟨h.os, h.tape, h.output, h.size, fun k hk => h.block k (hG k hk)⟩
theorem Keep.of {F : Nat → Prop} {w w' : World} (h : Below w.heap.size w w') (hF : ∀ k, F k → k < w.heap.size) : Keep F w w' := ⟨h.os, h.tape, h.output, h.size, fun k hk => h.block k (hF k hk)⟩
theorem Keep.to {F : Nat → Prop} {B : Nat} {w w' : World} (h : Keep F w w') (hF : ∀ k, k < B → F k) : Below B w w' := ⟨h.os, h.tape, h.output, h.size, fun k hk => h.block k (hF k hk)⟩
theorem Keep.setCell {F : Nat → Prop} {a w : World} (h : Keep F a w) {p : Addr} (hp : ¬ F p.block) (u : Value) : Keep F a (w.setCell p u) := ⟨h.os, h.tape, h.output, by simpa [World.setCell] using h.size, fun k hk => by
  rw [Below.heap_setCell _ _ _ _ (fun e => hp (e ▸ hk))]
  exact h.block k hk⟩
theorem Keep.cell {F : Nat → Prop} {w w' : World} (h : Keep F w w') {p : Addr} (hp : F p.block) : w'.cell? p = w.cell? p := World.cell?_of_block (w := w) (h.block p.block hp)
theorem Keep.frozen {F : Nat → Prop} {w w' : World} (h : Keep F w w') {p : Addr} (hp : F p.block) : w'.frozen? p = w.frozen? p := World.frozen?_of_block (w := w) (h.block p.block hp)
/-- An object. -/
structure ObAt (w : World) (p f : Nat) (id : Int) (o : ObM) : Prop where
  blk : w.heap[p]? = some (.cells #[.int .i64 id, .slice (some ⟨f, 0, none⟩) o.flds.length o.flds.length, .int .i64 o.col] 38 (0, 0))
  row : w.heap[f]? = some (.cells (intsV o.flds).toArray 2 (0, 0))
/-- All objects that were made. -/
structure ObsAt (w : World) (F : Nat → Prop) (ps fs : List Nat) (obs : List ObM) : Prop where
  lp : ps.length = obs.length
  lf : fs.length = obs.length
  at_ : ∀ i o, obs[i]? = some o → ObAt w (ps.getD i 0) (fs.getD i 0) ((i : Int) + 1) o
  nd : fs.Nodup
  lo : (∀ p ∈ ps, ¬ F p) ∧ ∀ f ∈ fs, ¬ F f
theorem ObsAt.get {w : World} {F : Nat → Prop} {ps fs : List Nat} {obs : List ObM} (h : ObsAt w F ps fs obs) {z : Int} {o : ObM} (hg : getM obs z = some o) : ObAt w (ps.getD (z.toNat - 1) 0) (fs.getD (z.toNat - 1) 0) z o := by
  obtain ⟨h1, h2, _⟩ := getM_some.1 hg
  have := h.at_ _ _ h2
  rwa [show ((z.toNat - 1 : Nat) : Int) + 1 = z by omega] at this
theorem ObsAt.kept {w w' : World} {F : Nat → Prop} {ps fs : List Nat} {obs : List ObM} (h : ObsAt w F ps fs obs) (hk : ∀ k cs t, w.heap[k]? = some (.cells cs t (0, 0)) → (t = 38 ∨ t = 2 ∧ k ∈ fs) → w'.heap[k]? = w.heap[k]?) : ObsAt w' F ps fs obs := by
  refine ⟨h.lp, h.lf, fun i o ho => ?_, h.nd, h.lo⟩
  have a := h.at_ i o ho
  have hi := (List.getElem?_eq_some_iff.1 ho).1
  refine ⟨(hk _ _ _ a.blk (.inl rfl)).trans a.blk, (hk _ _ _ a.row (.inr ⟨rfl, ?_⟩)).trans a.row⟩
  rw [List.getD_eq_getElem?_getD, List.getElem?_eq_getElem (by rw [h.lf]; exact hi)]
  exact List.getElem_mem _
theorem ObsAt.below {w w' : World} {F : Nat → Prop} {ps fs : List Nat} {obs : List ObM} (h : ObsAt w F ps fs obs) (hb : Below w.heap.size w w') : ObsAt w' F ps fs obs :=
  h.kept fun k cs t hk _ => hb.block k (Array.getElem?_eq_some_iff.1 hk).1
/-- Another colour. -/
theorem ObsAt.colour {w : World} {F : Nat → Prop} {ps fs : List Nat} {obs : List ObM} (h : ObsAt w F ps fs obs) {z : Int} {o : ObM} (hg : getM obs z = some o) (c : Int) : ObsAt (w.setCell ⟨ps.getD (z.toNat - 1) 0, 2, none⟩ (.int .i64 c)) F ps fs (setCol obs z c) := by
  have a := h.get hg
  obtain ⟨h1, h2, _⟩ := getM_some.1 hg
  refine ⟨by rw [setCol_length]; exact h.lp, by rw [setCol_length]; exact h.lf, fun i x hx => ?_, h.nd, h.lo⟩
  unfold setCol at hx
  rw [List.getElem?_modify] at hx
  by_cases e : z.toNat - 1 = i
  · subst e
    rw [h2] at hx
    simp at hx
    subst hx
    have ei : ((z.toNat - 1 : Nat) : Int) + 1 = z := by omega
    rw [ei]
    refine ⟨?_, ?_⟩
    · rw [set_same _ a.blk]
      rfl
    · rw [set_other _ (fun q => ?_)]
      · exact a.row
      · rw [q] at a
        have := a.blk.symm.trans a.row
        simp only [Option.some.injEq, Obj.cells.injEq] at this
        exact absurd this.2.1 (by decide)
  · cases hxi : obs[i]? with
    | none => rw [hxi] at hx; simp at hx
    | some y =>
      rw [hxi] at hx
      simp [e] at hx
      subst hx
      have b := h.at_ i y hxi
      refine ⟨?_, ?_⟩
      · rw [set_other _ (fun q => ?_)]
        · exact b.blk
        · have b1 := b.blk
          rw [q] at b1
          have := b1.symm.trans a.blk
          simp only [Option.some.injEq, Obj.cells.injEq] at this
          have := this.1
          simp at this
          omega
      · rw [set_other _ (fun q => ?_)]
        · exact b.row
        · have b1 := b.row
          rw [q] at b1
          have := b1.symm.trans a.blk
          simp only [Option.some.injEq, Obj.cells.injEq] at this
          exact absurd this.2.1 (by decide)
/-- Which objects are there. -/
def therL (obs : List ObM) : List Nat := (List.range obs.length).filter fun i => ((obs[i]?).map ObM.there).getD false
theorem mem_therL {obs : List ObM} {i : Nat} : i ∈ therL obs ↔ ∃ o, obs[i]? = some o ∧ o.there = true := by
  unfold therL
  simp only [List.mem_filter, List.mem_range]
  constructor
  · rintro ⟨h1, h2⟩
    rw [List.getElem?_eq_getElem h1] at h2
    exact ⟨obs[i], List.getElem?_eq_getElem h1, by simpa using h2⟩
  · rintro ⟨o, h1, h2⟩
    exact ⟨(List.getElem?_eq_some_iff.1 h1).1, by rw [h1]; simpa using h2⟩
theorem therL_len (obs : List ObM) : (therL obs).length ≤ obs.length := by
  have := List.length_filter_le (fun i => ((obs[i]?).map ObM.there).getD false) (List.range obs.length)
  simpa [therL] using this
theorem therL_get {obs : List ObM} {i : Nat} (h : i ∈ therL obs) : ∃ o, getM obs ((i : Int) + 1) = some o ∧ obs[i]? = some o := by
  obtain ⟨o, h1, h2⟩ := mem_therL.1 h
  exact ⟨o, getM_some.2 ⟨by omega, by rw [show ((i : Int) + 1).toNat - 1 = i by omega]; exact h1, h2⟩, h1⟩
theorem getM_ther {obs : List ObM} {z : Int} {o : ObM} (h : getM obs z = some o) : z.toNat - 1 ∈ therL obs ∧ 1 ≤ z := by
  obtain ⟨h1, h2, h3⟩ := getM_some.1 h
  exact ⟨mem_therL.2 ⟨o, h2, h3⟩, h1⟩
def ptrsP (ps ix : List Nat) : List Value := ix.map fun i => .pointer (some ⟨ps.getD i 0, 0, none⟩)
/-- The specification's heap in memory. -/
structure SpW (w : World) (F : Nat → Prop) (H : Nat) (s : StM) (ps fs : List Nat) (ov : Value) (R : Nat) (qv : Value) : Prop where
  ob : ObsAt w F ps fs s.obs
  blk : w.heap[H]? = some (.cells #[.int .i64 s.mode, ov, .slice (some ⟨R, 0, none⟩) 8 8, .bool s.cyc, qv, .int .i64 s.obs.length] 61 (0, 0))
  ow : w.ownsRow 0 62 1 ov (therL s.obs).length (ptrsP ps (therL s.obs))
  rt : w.heap[R]? = some (.cells (intsV s.roots).toArray 2 (0, 0))
  ro : OutAt 0 w qv s.row
  n1 : R ∉ fs
  n2 : qv.ownBlock ≠ some R
  n3 : ∀ f ∈ fs, qv.ownBlock ≠ some f
  lo : ¬ F H ∧ ¬ F R ∧ ∀ k, F k → k < w.heap.size
  fo : (∀ k, ov.ownBlock = some k → ¬ F k) ∧ ∀ k, qv.ownBlock = some k → ¬ F k
set_option maxRecDepth 100000 in
set_option maxHeartbeats 1000000 in
theorem get_calls (w : World) (F : Nat → Prop) (H : Nat) (s : StM) (ps fs : List Nat) (ov : Value) (R : Nat) (qv : Value) (z : Int) (h : SpW w F H s ps fs ov R qv) (hl : s.obs.length ≤ 400) :
    Calls Try.prog 66 #[.pointer (some ⟨H, 0, none⟩), .int .i64 z] w fun e w' => (getM s.obs z ≠ none → e = .returned (.tuple #[.pointer (some ⟨ps.getD (z.toNat - 1) 0, 0, none⟩), .bool true]) ∧ w' = w) ∧ (getM s.obs z = none → (∃ g, e = .returned (.tuple #[.pointer (some ⟨g, 0, none⟩), .bool false])) ∧ Below w.heap.size w w') := by
  have k1 : w.cell? ⟨H, 1, none⟩ = some ov := cell_of h.blk rfl
  have hH : Hid (SpW w F H s ps fs ov R qv) := h
  obtain ⟨oa, oc, rfl⟩ := own_slice h.ow
  have hll : (therL s.obs).length ≤ 400 := Nat.le_trans (therL_len _) hl
  have hll' : ((therL s.obs).length : Int) ≤ 400 := by omega
  have hat : Hid (∀ m (hm : m < (therL s.obs).length), ∃ g, oa = some ⟨g, 0, none⟩ ∧ w.cell? ⟨g, m, none⟩ = some (.pointer (some ⟨ps.getD ((therL s.obs)[m]) 0, 0, none⟩)) ∧ w.cell? ⟨ps.getD ((therL s.obs)[m]) 0, 0, none⟩ = some (.int .i64 (((therL s.obs)[m] : Nat) + 1))) := fun m hm => by
    obtain ⟨g, c, e⟩ := own_some h.ow (by omega)
    injection e with e1 e2 e3
    subst e1
    have hcell := World.ownsRow.cellAt h.ow m (by omega)
    refine ⟨g, rfl, ?_, ?_⟩
    · rw [hcell]
      simp [ptrsP, hm]
    · obtain ⟨o, ho, ho2⟩ := therL_get (List.getElem_mem hm)
      exact cell_of (h.ob.at_ _ _ ho2).blk rfl
  clear h
  go_enter Try.func66, Try.ntmps66
  go_wp2
  go_loopw [6] (fun i wr => ∃ m : Nat, m ≤ (therL s.obs).length ∧ i = .int .i64 m ∧ wr = w ∧ Hid (∀ k (hk : k < (therL s.obs).length), k < m → (((therL s.obs)[k] : Nat) : Int) + 1 ≠ z)) (fun i _ => (therL s.obs).length - (intOf i).toNat)
  case atStart => exact ⟨0, Nat.zero_le _, rfl, rfl, fun k _ hk => absurd hk (by omega)⟩
  case round =>
    obtain ⟨m, hm, rfl, hw, hno⟩ := hrel
    have hw2 := hw.symm
    subst hw2
    clear hw
    have hm0 : (0 : Int) ≤ m := by omega
    by_cases hlt : m < (therL s.obs).length
    · have hlt' : (m : Int) < ((therL s.obs).length : Int) := by omega
      obtain ⟨g, rfl, q1, q2⟩ := hat.out m hlt
      by_cases he : (((therL s.obs)[m] : Nat) : Int) + 1 = z
      · have hz : Hid (getM s.obs z ≠ none ∧ (therL s.obs)[m] = z.toNat - 1) := by
          obtain ⟨o, ho, _⟩ := therL_get (List.getElem_mem hlt)
          rw [he] at ho
          exact ⟨by rw [ho]; simp, by omega⟩
        rw [he] at q2
        rw [hz.out.2] at q1 q2
        clear he
        obtain ⟨pp, hpp⟩ : ∃ pp, pp = ps.getD (z.toNat - 1) 0 := ⟨_, rfl⟩
        have hppH : Hid (pp = ps.getD (z.toNat - 1) 0) := hpp
        rw [← hpp] at q1 q2
        clear hpp
        go_wp2
        go_ret2
        exact ⟨fun _ => ⟨by rw [← hppH.out]; rfl, rfl⟩, fun q => absurd q hz.out.1⟩
      · have hno2 : Hid (∀ k (hk : k < (therL s.obs).length), k < m + 1 → (((therL s.obs)[k] : Nat) : Int) + 1 ≠ z) := fun k hk hkm => by
          by_cases e : k = m
          · subst e; exact he
          · exact hno.out k hk (by omega)
        have he2 : ¬ ((((therL s.obs)[m] : Nat) : Int) + 1 = z) := he
        generalize (therL s.obs)[m] = ix at q1 q2 he he2
        generalize ps.getD ix 0 = pp at q1 q2
        clear hno
        go_wp2
        go_roundw
        case rel => exact ⟨m + 1, by omega, by go_num, by first | trivial | rfl, hno2⟩
        case measure => simp [intOf]; omega
    · have hge : ¬ ((m : Int) < ((therL s.obs).length : Int)) := by omega
      have hnone : Hid (getM s.obs z = none) := by
        cases hg : getM s.obs z with
        | none => rfl
        | some o =>
          obtain ⟨h1, h2⟩ := getM_ther hg
          obtain ⟨k, hk, e⟩ := List.mem_iff_getElem.1 h1
          exact absurd (by rw [e]; omega) (hno.out k hk (by omega))
      clear hno
      go_wp2
      go_ret2
      exact ⟨fun q => absurd hnone.out q, fun _ => ⟨⟨_, rfl⟩, below_1 _ _⟩⟩
end Go.Proofs.Ytchcdlelaklnnaa

/- The specification's heap: shading. -/
namespace Go.Proofs.Ytchcdlelaklnnaa
set_option linter.unusedVariables false
open Go.ChangeShapes Go.WideShapes Go.ChangeAt Go.RowKit

theorem int_info : ∃ i0 : TypeInfo, Try.prog.info? 2 = some i0 ∧ i0.zero = some (.int .i64 0) ∧ i0.size = 1 ∧ i0.bytes = 8 := info_parts (show (Try.prog.info? 2).map (fun i => (i.zero, i.size, i.bytes)) = some (some (.int .i64 0), 1, 8) by kernel_rfl)
theorem own_tag {w : World} {B e size : Nat} {v : Value} {n : Nat} {xs : List Value} (h : w.ownsRow B e size v n xs) {k : Nat} (hk : v.ownBlock = some k) : ∃ cur, w.heap[k]? = some (.cells cur e (0, 0)) := by
  rcases h.2 with ⟨q, _⟩ | ⟨g, cap, cur, q, _, hm, _⟩
  · rw [q] at hk; simp [Value.ownBlock] at hk
  · rw [q] at hk
    simp only [Value.ownBlock, Option.some.injEq] at hk
    subst hk
    exact ⟨cur, hm⟩
theorem tag_ne {w : World} {a b t1 t2 : Nat} {c1 c2 : Array Value} (h1 : w.heap[a]? = some (.cells c1 t1 (0, 0))) (h2 : w.heap[b]? = some (.cells c2 t2 (0, 0))) (hn : t1 ≠ t2) : a ≠ b := fun q => by
  rw [q] at h1
  have := h1.symm.trans h2
  simp only [Option.some.injEq, Obj.cells.injEq] at this
  exact hn this.2.1
theorem lt_of {w : World} {a : Nat} {o : Obj} (h : w.heap[a]? = some o) : a < w.heap.size := (Array.getElem?_eq_some_iff.1 h).1
theorem therL_setCol (obs : List ObM) (z c : Int) : therL (setCol obs z c) = therL obs := by
  unfold therL
  rw [setCol_length]
  refine List.filter_congr fun i _ => ?_
  unfold setCol
  rw [List.getElem?_modify]
  cases obs[i]? with
  | none => rfl
  | some o => by_cases e : z.toNat - 1 = i <;> simp [e]
/-- The world changes elsewhere. -/
theorem SpW.kept {w w' : World} {F : Nat → Prop} {H R : Nat} {s : StM} {ps fs : List Nat} {ov qv : Value} (h : SpW w F H s ps fs ov R qv) (hk : ∀ k cs t, w.heap[k]? = some (.cells cs t (0, 0)) → (t = 38 ∨ t = 61 ∨ t = 62 ∨ k = R ∨ k ∈ fs ∨ qv.ownBlock = some k) → w'.heap[k]? = w.heap[k]?) (hs : w.heap.size ≤ w'.heap.size) : SpW w' F H s ps fs ov R qv := by
  refine ⟨h.ob.kept fun k cs t a b => hk k cs t a ?_, (hk _ _ _ h.blk (.inr (.inl rfl))).trans h.blk, own_kept h.ow fun k q => ?_, (hk _ _ _ h.rt (.inr (.inr (.inr (.inl rfl))))).trans h.rt, own_kept h.ro fun k q => ?_, h.n1, h.n2, h.n3, ⟨h.lo.1, h.lo.2.1, fun k q => Nat.lt_of_lt_of_le (h.lo.2.2 k q) hs⟩, h.fo⟩
  · rcases b with b | b
    · exact .inl b
    · exact .inr (.inr (.inr (.inr (.inl b.2))))
  · obtain ⟨cur, a⟩ := own_tag h.ow q
    exact hk _ _ _ a (.inr (.inr (.inl rfl)))
  · obtain ⟨cur, a⟩ := own_tag h.ro q
    exact hk _ _ _ a (.inr (.inr (.inr (.inr (.inr q)))))
theorem SpW.below {w w' : World} {F : Nat → Prop} {H R : Nat} {s : StM} {ps fs : List Nat} {ov qv : Value} (h : SpW w F H s ps fs ov R qv) (hb : Below w.heap.size w w') : SpW w' F H s ps fs ov R qv := h.kept (fun k cs t a _ => hb.block k (lt_of a)) hb.size
/-- One object gets another colour. -/
theorem SpW.colour {w : World} {F : Nat → Prop} {H R : Nat} {s : StM} {ps fs : List Nat} {ov qv : Value} (h : SpW w F H s ps fs ov R qv) {z : Int} {o : ObM} (hg : getM s.obs z = some o) (c : Int) : SpW (w.setCell ⟨ps.getD (z.toNat - 1) 0, 2, none⟩ (.int .i64 c)) F H { s with obs := setCol s.obs z c } ps fs ov R qv := by
  have a := (h.ob.get hg).blk
  refine ⟨h.ob.colour hg c, ?_, ?_, ?_, ?_, h.n1, h.n2, h.n3, ⟨h.lo.1, h.lo.2.1, by have := h.lo.2.2; simpa [World.setCell] using this⟩, h.fo⟩
  · rw [set_other _ (tag_ne h.blk a (by decide))]
    show _ = some (Obj.cells #[_, _, _, _, _, .int .i64 ((setCol s.obs z c).length : Nat)] 61 (0, 0))
    rw [setCol_length]
    exact h.blk
  · show World.ownsRow _ _ _ _ _ (therL (setCol s.obs z c)).length (ptrsP ps (therL (setCol s.obs z c)))
    rw [therL_setCol]
    exact own_kept h.ow fun k q => by
      obtain ⟨cur, b⟩ := own_tag h.ow q
      exact set_other _ (tag_ne b a (by decide))
  · rw [set_other _ (tag_ne h.rt a (by decide))]
    exact h.rt
  · exact own_kept h.ro fun k q => by
      obtain ⟨cur, b⟩ := own_tag h.ro q
      exact set_other _ (tag_ne b a (by decide))
/-- The row grows. -/
theorem SpW.push {w w3 : World} {F : Nat → Prop} {H R : Nat} {s : StM} {ps fs : List Nat} {ov qv qv' : Value} {z : Int} {o : Obj} (h : SpW w F H s ps fs ov R qv) (hg : (w.alloc o).grownBy w3 qv.ownBlock) (ho : w3.ownsRow 0 2 1 qv' (s.row.length + 1) (intsV s.row ++ [.int .i64 z])) (ha : qv'.ownBlock = qv.ownBlock ∨ qv'.ownBlock = some (w.alloc o).heap.size) :
    SpW (w3.setCell ⟨H, 4, none⟩ qv') F H { s with row := s.row ++ [z] } ps fs ov R qv' ∧ Keep F w (w3.setCell ⟨H, 4, none⟩ qv') ∧ w3.cell? ⟨H, 4, none⟩ = some qv ∧ w3.frozen? ⟨H, 4, none⟩ = false := by
  have s1 : (w.alloc o).heap.size = w.heap.size + 1 := World.size_alloc _ _
  have s2 := hg.size
  have kp : ∀ k, k < w.heap.size → qv.ownBlock ≠ some k → w3.heap[k]? = w.heap[k]? := fun k hk hq => by
    rw [hg.block k (by omega) (fun e => hq e.symm), Below.heap_alloc _ _ _ hk]
  have hHq : qv.ownBlock ≠ some H := fun q => by
    obtain ⟨cur, b⟩ := own_tag h.ro q
    exact tag_ne b h.blk (by decide) rfl
  have kH := (kp H (lt_of h.blk) hHq).trans h.blk
  have hnew : ∀ k, k < w.heap.size → qv.ownBlock ≠ some k → qv'.ownBlock ≠ some k := fun k hk hq q => by
    rcases ha with e | e
    · exact hq (e.symm.trans q)
    · rw [e] at q
      injection q with q
      omega
  have kp2 : ∀ k, k < w.heap.size → qv.ownBlock ≠ some k → k ≠ H → (w3.setCell ⟨H, 4, none⟩ qv').heap[k]? = w.heap[k]? := fun k hk hq hH => by
    rw [set_other _ hH]
    exact kp k hk hq
  have hFq : ∀ k, qv'.ownBlock = some k → ¬ F k := fun k q r => by
    rcases ha with e | e
    · exact h.fo.2 k (e.symm.trans q) r
    · rw [e] at q
      injection q with q
      have := h.lo.2.2 k r
      omega
  have hob := h.ob.kept (w' := w3.setCell ⟨H, 4, none⟩ qv') fun k cs t a b => kp2 k (lt_of a) (fun q => by
    rcases b with b | b
    · obtain ⟨cur, c⟩ := own_tag h.ro q
      exact tag_ne c a (by rw [b]; decide) rfl
    · exact h.n3 k b.2 q) (tag_ne a h.blk (by rcases b with b | b; rw [b]; decide; rw [b.1]; decide))
  refine ⟨⟨hob, ?_, ?_, ?_, ?_, h.n1, ?_, ?_, ⟨h.lo.1, h.lo.2.1, fun k q => by have := h.lo.2.2 k q; simp [World.setCell]; omega⟩, ⟨h.fo.1, hFq⟩⟩, ?_, cell_of kH rfl, free_of kH⟩
  · rw [set_same _ kH]
    rfl
  · exact own_kept h.ow fun k q => by
      obtain ⟨cur, b⟩ := own_tag h.ow q
      refine kp2 k (lt_of b) (fun q2 => ?_) (tag_ne b h.blk (by decide))
      obtain ⟨cur2, c⟩ := own_tag h.ro q2
      exact tag_ne c b (by decide) rfl
  · rw [kp2 R (lt_of h.rt) h.n2 (tag_ne h.rt h.blk (by decide))]
    exact h.rt
  · show World.ownsRow _ _ _ _ _ (s.row ++ [z]).length (intsV (s.row ++ [z]))
    rw [List.length_append, intsV_append]
    exact own_kept ho fun k q => by
      obtain ⟨cur, b⟩ := own_tag ho q
      exact set_other _ (tag_ne b kH (by decide))
  · exact hnew R (lt_of h.rt) h.n2
  · intro f hf
    obtain ⟨i, hi, e⟩ := List.mem_iff_getElem.1 hf
    have hi2 : i < s.obs.length := by rw [← h.ob.lf]; exact hi
    have b := (h.ob.at_ i _ (List.getElem?_eq_getElem hi2)).row
    rw [List.getD_eq_getElem?_getD, List.getElem?_eq_getElem hi] at b
    rw [← e]
    exact hnew _ (lt_of b) (fun q => h.n3 _ (List.getElem_mem hi) q)
  · refine ⟨hg.os, hg.tape, hg.output, by simp [World.setCell]; omega, fun k hk => ?_⟩
    exact kp2 k (h.lo.2.2 k hk) (fun q => h.fo.2 k q hk) (fun e => h.lo.1 (e ▸ hk))
set_option maxRecDepth 100000 in
set_option maxHeartbeats 1000000 in
theorem shade_calls (w : World) (F : Nat → Prop) (H : Nat) (s : StM) (ps fs : List Nat) (ov : Value) (R : Nat) (qv : Value) (z : Int) (h : SpW w F H s ps fs ov R qv) (hl : s.obs.length ≤ 400) (hrl : s.row.length ≤ 400) :
    Calls Try.prog 67 #[.pointer (some ⟨H, 0, none⟩), .int .i64 z] w fun e w' => e = .returned (.tuple #[]) ∧ (∃ qv', SpW w' F H (s.shade z) ps fs ov R qv') ∧ Keep F w w' := by
  have hH : Hid (SpW w F H s ps fs ov R qv) := h
  have hget : Hid (Calls Try.prog 66 #[.pointer (some ⟨H, 0, none⟩), .int .i64 z] w fun e w' => (getM s.obs z ≠ none → e = .returned (.tuple #[.pointer (some ⟨ps.getD (z.toNat - 1) 0, 0, none⟩), .bool true]) ∧ w' = w) ∧ (getM s.obs z = none → (∃ g, e = .returned (.tuple #[.pointer (some ⟨g, 0, none⟩), .bool false])) ∧ Below w.heap.size w w')) := get_calls w F H s ps fs ov R qv z h hl
  obtain ⟨i9, hi9, hz9, hs9, hb9⟩ := int_info
  cases hg : getM s.obs z with
  | none =>
    have hgc : Hid (Calls Try.prog 66 #[.pointer (some ⟨H, 0, none⟩), .int .i64 z] w fun e w' => (∃ g, e = .returned (.tuple #[.pointer (some ⟨g, 0, none⟩), .bool false])) ∧ Below w.heap.size w w') := hget.out.mono fun e w' q => q.2 hg
    have hsh : Hid (s.shade z = s) := shade_none fun o ho => by rw [hg] at ho; cases ho
    clear hget h hg
    go_enter Try.func67, Try.ntmps67
    go_wp2_with (go_at_call 66; refine (show Calls _ _ _ _ _ from hgc.out).mono ?_; rintro e w' ⟨⟨g, rfl⟩, hb⟩)
    first | (refine bodyPost_ret (results_none rfl _ _ _) rfl ?_) | go_end0
    exact ⟨rfl, ⟨qv, by rw [hsh.out]; exact hH.out.below hb⟩, Keep.of hb hH.out.lo.2.2⟩
  | some o =>
    have hgc : Hid (Calls Try.prog 66 #[.pointer (some ⟨H, 0, none⟩), .int .i64 z] w fun e w' => e = .returned (.tuple #[.pointer (some ⟨ps.getD (z.toNat - 1) 0, 0, none⟩), .bool true]) ∧ w' = w) := hget.out.mono fun e w' q => q.1 (by rw [hg]; simp)
    have hgH : Hid (getM s.obs z = some o) := hg
    have hob := h.ob.get hg
    have k2 : w.cell? ⟨ps.getD (z.toNat - 1) 0, 2, none⟩ = some (.int .i64 o.col) := cell_of hob.blk rfl
    have kf : w.frozen? ⟨ps.getD (z.toNat - 1) 0, 2, none⟩ = false := free_of hob.blk
    have hS1 : Hid (SpW (w.setCell ⟨ps.getD (z.toNat - 1) 0, 2, none⟩ (.int .i64 2)) F H { s with obs := setCol s.obs z 2 } ps fs ov R qv) := h.colour hg 2
    have hpB : Hid (¬ F (ps.getD (z.toNat - 1) 0)) := by
      obtain ⟨a1, a2, _⟩ := getM_some.1 hg
      have hi := (List.getElem?_eq_some_iff.1 a2).1
      refine h.ob.lo.1 _ ?_
      rw [List.getD_eq_getElem?_getD, List.getElem?_eq_getElem (by rw [h.ob.lp]; exact hi)]
      exact List.getElem_mem _
    clear hget h hg hob
    obtain ⟨pp, hpp⟩ : ∃ pp, pp = ps.getD (z.toNat - 1) 0 := ⟨_, rfl⟩
    rw [← hpp] at hgc k2 kf hS1 hpB
    clear hpp
    by_cases hc : o.col = 1
    · have hsh : Hid (s.shade z = { s with obs := setCol s.obs z 2, row := s.row ++ [z] }) := shade_some hgH.out hc
      have k4 : (w.setCell ⟨pp, 2, none⟩ (.int .i64 2)).cell? ⟨H, 4, none⟩ = some qv := cell_of hS1.out.blk rfl
      have hbS : Hid (Keep F w (w.setCell ⟨pp, 2, none⟩ (.int .i64 2))) := (Keep.refl _ _).setCell (p := ⟨pp, 2, none⟩) hpB.out _
      rw [hc] at k2
      clear hc
      go_enter Try.func67, Try.ntmps67
      go_upto_region 3 with (go_at_call 66; refine (show Calls _ _ _ _ _ from hgc.out).mono ?_; rintro e w' ⟨rfl, hw⟩; subst hw)
      obtain ⟨W1, hW1⟩ : ∃ W1, W1 = w'.setCell ⟨pp, 2, none⟩ (.int .i64 2) := ⟨_, rfl⟩
      rw [← hW1] at k4 hS1 hbS ⊢
      clear hW1 hgc kf k2 hH
      have hloA : Hid ((W1.alloc (.cells #[.int .i64 z] 2)).ownsRow 0 2 1 qv s.row.length (intsV s.row)) := own_kept hS1.out.ro fun k hk => Below.heap_alloc _ _ _ (World.ownsRow.lt hS1.out.ro k hk).2
      have hsrcA : Hid (SrcAt (W1.alloc (.cells #[.int .i64 z] 2)) 1 (.slice (some ⟨W1.heap.size, 0, none⟩) 1 1) 1 [.int .i64 z]) := .inr ⟨⟨W1.heap.size, 0, none⟩, 1, rfl, rfl, fun j u hj => by
        have hj0 : j = 0 := by have := (List.getElem?_eq_some_iff.1 hj).1; simp at this; omega
        subst hj0
        simp at hj
        subst hj
        rw [Addr.add_lit]
        exact (rangeAt_heap (heap_alloc_new W1 (.cells #[.int .i64 z] 2))) 0 _ rfl⟩
      have hBs : Hid (0 ≤ (W1.alloc (.cells #[.int .i64 z] 2)).heap.size) := Nat.zero_le _
      obtain ⟨qa, qc, rfl⟩ := own_slice hS1.out.ro
      go_wp2_with (refine wpList_append_src rfl (.tmp 27) (.tmp 29) 32 rfl 0 2 i9 (.int .i64 0) 1 8 Try.underlying32 hi9 hz9 hs9 hb9 rfl (by omega) _ s.row.length (intsV s.row) rfl hloA.out _ 1 [.int .i64 z] rfl hsrcA.out (by simp [Value.oneCell']) (by unfold maxLen; omega) (by omega) hBs.out (fun qv' w2 hown2 hgrow2 hat2 => ?_); obtain ⟨pa, pb, pc, pd⟩ := hS1.out.push hgrow2 hown2 hat2; have hpa : Hid _ := pa; have hpb : Hid _ := pb; obtain ⟨qa', qc', rfl⟩ := own_slice hown2; clear pa pb hown2 hgrow2 hat2)
      first | (refine bodyPost_ret (results_none rfl _ _ _) rfl ?_) | go_end0
      exact ⟨rfl, ⟨_, by rw [hsh.out]; exact hpa.out⟩, hbS.out.trans hpb.out⟩
    · have hsh : Hid (s.shade z = s) := shade_none fun o' ho => by rw [hgH.out] at ho; injection ho with ho; subst ho; exact hc
      go_enter Try.func67, Try.ntmps67
      go_wp2_with (go_at_call 66; refine (show Calls _ _ _ _ _ from hgc.out).mono ?_; rintro e w' ⟨rfl, hw⟩; subst hw)
      first | (refine bodyPost_ret (results_none rfl _ _ _) rfl ?_) | go_end0
      exact ⟨rfl, ⟨qv, by rw [hsh.out]; exact hH.out⟩, Keep.refl _ _⟩
end Go.Proofs.Ytchcdlelaklnnaa

/- The specification's heap: the roots shaded; steps. -/
namespace Go.Proofs.Ytchcdlelaklnnaa
set_option linter.unusedVariables false
open Go.ChangeShapes Go.WideShapes Go.ChangeAt Go.RowKit

theorem row_len {row : List Int} {obs : List ObM} (hn : row.Nodup) (hr : ∀ z ∈ row, ∃ o, getM obs z = some o) : row.length ≤ obs.length := by
  have := nodup_lenN (m := (List.range obs.length).map fun (i : Nat) => (i : Int) + 1) hn fun z hz => by
    obtain ⟨o, ho⟩ := hr z hz
    have := getM_le ho
    exact List.mem_map.2 ⟨z.toNat - 1, by simp; omega, by omega⟩
  simpa using this
theorem InvM.rowlen {s : StM} (h : InvM s) : s.row.length ≤ s.obs.length := row_len h.nd fun z hz => by
  obtain ⟨o, ho, _⟩ := (h.gr z).1 hz
  exact ⟨o, ho⟩
theorem InvZ.rowlen {s : StM} {z : Int} (h : InvZ s z) : s.row.length ≤ s.obs.length := row_len h.nd fun y hy => by
  obtain ⟨o, ho, _⟩ := (h.gr y).1 (.inl hy)
  exact ⟨o, ho⟩
theorem shades_snoc (s : StM) (zs : List Int) (z : Int) : s.shades (zs ++ [z]) = (s.shades zs).shade z := by rw [shades_append]; rfl
theorem take_snoc {zs : List Int} {m : Nat} (h : m < zs.length) : zs.take (m + 1) = zs.take m ++ [zs[m]] := by rw [List.take_add_one, List.getElem?_eq_getElem h]; rfl
theorem intsV_cell {zs : List Int} {j : Nat} (h : j < zs.length) : (intsV zs).toArray[j]? = some (.int .i64 zs[j]) := by simp [intsV, h]
set_option maxRecDepth 100000 in
set_option maxHeartbeats 1000000 in
theorem roots_calls (w : World) (F : Nat → Prop) (H : Nat) (s : StM) (ps fs : List Nat) (ov : Value) (R : Nat) (qv : Value) (h : SpW w F H s ps fs ov R qv) (hi : InvM s) (hl : s.obs.length ≤ 400) :
    Calls Try.prog 68 #[.pointer (some ⟨H, 0, none⟩)] w fun e w' => e = .returned (.tuple #[]) ∧ (∃ qv', SpW w' F H (s.shades s.roots) ps fs ov R qv') ∧ Keep F w w' := by
  have hH : Hid (SpW w F H s ps fs ov R qv) := h
  have hiH : Hid (InvM s) := hi
  have hr8 : Hid (s.roots.length = 8) := hi.rl
  clear h hi
  go_enter Try.func68, Try.ntmps68
  go_wp2
  go_loopw [2] (fun i wr => ∃ (m : Nat) (qv : Value), m ≤ 8 ∧ i = .int .i64 m ∧ Hid (SpW wr F H (s.shades (s.roots.take m)) ps fs ov R qv) ∧ Hid (Keep F w wr)) (fun i _ => 8 - (intOf i).toNat)
  case atStart => exact ⟨0, qv, by omega, rfl, by simpa [shades_nil] using hH, Keep.refl _ _⟩
  case round =>
    obtain ⟨m, qv, hm, rfl, hS, hB⟩ := hrel
    have hm0 : (0 : Int) ≤ m := by omega
    have k2 : wr.cell? ⟨H, 2, none⟩ = some (.slice (some ⟨R, 0, none⟩) 8 8) := cell_of hS.out.blk rfl
    have hfr := shades_frame s (s.roots.take m)
    have hI : Hid (InvM (s.shades (s.roots.take m))) := hiH.out.shades _
    by_cases hlt : m < 8
    · have hlt' : (m : Int) < 8 := by omega
      have hml : m < s.roots.length := by rw [hr8.out]; exact hlt
      have kR : wr.cell? ⟨R, m, none⟩ = some (.int .i64 s.roots[m]) := by
        have h1 := hS.out.rt
        rw [hfr.2.1] at h1
        exact cell_of h1 (intsV_cell hml)
      have hsh : Hid (Calls Try.prog 67 #[.pointer (some ⟨H, 0, none⟩), .int .i64 s.roots[m]] wr fun e w' => e = .returned (.tuple #[]) ∧ (∃ qv', SpW w' F H ((s.shades (s.roots.take m)).shade s.roots[m]) ps fs ov R qv') ∧ Keep F wr w') := shade_calls wr F H _ ps fs ov R qv _ hS.out (by rw [hfr.2.2.2]; exact hl) (by have := hI.out.rowlen; rw [hfr.2.2.2] at this; omega)
      have hE : Hid ((s.shades (s.roots.take m)).shade s.roots[m] = s.shades (s.roots.take (m + 1))) := by show _ = _; rw [take_snoc hml, shades_snoc]
      rw [hE.out] at hsh
      generalize s.roots[m] = z at *
      clear hS hI hfr hE
      go_wp2_with (go_at_call 67; refine (show Calls _ _ _ _ _ from hsh.out).mono ?_; rintro e w1 ⟨rfl, ⟨qv', hS1⟩, hB1⟩; have hS1H : Hid (SpW w1 F H (s.shades (s.roots.take (m + 1))) ps fs ov R qv') := hS1; have hB2 : Hid (Keep F w w1) := hB.out.trans hB1; clear hS1 hB1)
      go_roundw
      case rel => exact ⟨m + 1, qv', by omega, by go_num, hS1H, hB2⟩
      case measure => simp [intOf]; omega
    · have hge : ¬ ((m : Int) < 8) := by omega
      have hfin : Hid (SpW wr F H (s.shades s.roots) ps fs ov R qv) := by
        have h1 := hS.out
        rw [List.take_of_length_le (by rw [hr8.out]; omega)] at h1
        exact h1
      clear hS hI hfr
      go_wp2
      first | (refine bodyPost_ret (results_none rfl _ _ _) rfl ?_) | go_end0
      exact ⟨rfl, ⟨qv, hfin.out⟩, hB.out⟩
end Go.Proofs.Ytchcdlelaklnnaa
