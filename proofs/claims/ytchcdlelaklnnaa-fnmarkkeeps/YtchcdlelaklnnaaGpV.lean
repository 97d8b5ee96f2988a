/- impl.GcLive. -/
import Derived.Test.YtchcdlelaklnnaaGpN
import Derived.Sort.OwnSortedInts
namespace Go.Proofs.Ytchcdlelaklnnaa
set_option linter.unusedVariables false
open Go.ChangeShapes Go.WideShapes Go.ChangeAt Go.RowKit Go.Maps Go.Sort

theorem wpList_lookup_own {H : Type} {P : Program} (w : World) {ops : Array Oper} {rest : List Oper} {o : Oper} {a : Act} {Q : Exit → Act → World → Prop} (hg : o.guard = none) (m x : Operand) (t : TypeId) (hop : o.op = Op.lookup t m x false)
    (k e : TypeId) (K : Keyed P k) (ht : P.underlying t = some (.map k e)) (R : Value → Option (DataW H × List MemPlace)) {z : Value} (hz : (zeroValue e).run P w = .ok z w) (zd : DataW H) (zp : List MemPlace) (hzd : R z = some (zd, zp)) (b n : Nat) (D : DataW H)
    (hm : a.eval m = .map (some b)) (hown : w.ownsMap P k R b n D) (key : Value) (kl : Lit) (hx : a.eval x = key) (hkey : keyOf P k key = some kl)
    (hK : ∀ v ps, R v = some (D.atKey kl zd, ps) → wpList P ops Q rest (a.put o.dst v) w) : wpList P ops Q (o :: rest) a w := by
  refine wpList_plain hg fun K' hK' => ?_
  obtain ⟨v, ps, hrun, hv⟩ : ∃ v ps, (Instr.lookup t (.map (some b)) key false).run P w = .ok v w ∧ R v = some (D.atKey kl zd, ps) := by
    obtain ⟨es, clock, hb, F, _, rfl⟩ := hown
    rcases Maps.fit_look false K ht hz hb F hkey with ⟨hrun, _, hat⟩ | ⟨e0, y, _, _, hrun, hRv, hat, _⟩
    · exact ⟨z, zp, hrun, by rw [hat zd]; exact hzd⟩
    · exact ⟨e0.val, y.2, hrun, by rw [hat zd]; exact hRv⟩
  unfold Oper.wp
  simp [execOp, hop, hm, hx, hrun, Result.andThen]
  exact hK' _ _ (hK v ps hv)

set_option maxRecDepth 1000000 in
set_option maxHeartbeats 4000000 in
theorem sort_calls (base : Nat) (rv : Value) (row : List Int) (w : World) (hbase : base ≤ w.heap.size) (hl : row.length ≤ 8000) (ho : w.ownsRow base 2 1 rv row.length (row.map (Value.int .i64))) :
    Calls Try.prog 41 #[rv] w fun e w' => e = .returned (.tuple #[]) ∧ w'.ownsRow base 2 1 rv row.length ((row.mergeSort (fun x y => decide (x ≤ y))).map (Value.int .i64)) ∧ Below base w w' := by
  by_cases h0 : row.length = 0
  · have hnil : row = [] := List.eq_nil_of_length_eq_zero h0
    subst hnil
    obtain ⟨a, c, rfl⟩ := own_form ho
    have hc := AnyM.slices_Sort_int_none Try.laysort a c w
    change Calls Try.prog 41 _ _ _ at hc
    refine hc.mono ?_
    rintro e w' ⟨rfl, rfl⟩
    exact ⟨rfl, by simpa using ho, Below.refl _ _⟩
  · obtain ⟨g, c, rfl⟩ := own_some ho (by omega)
    have hlt := (World.ownsRow.lt ho g rfl)
    have hc := AnyM.slices_Sort_int Try.laysort g 0 c row w (fun j hj => by
      have hj' : j < row.length := by simpa using hj
      refine ⟨?_, by simpa using ho.frozenAt j⟩
      have := ho.cellAt j (by omega)
      rw [Nat.zero_add, this]
      simp [hj']) hlt.2 (by omega)
    change Calls Try.prog 41 _ _ _ at hc
    refine hc.mono ?_
    rintro e w' ⟨rfl, n, os, rfl⟩
    rcases ho.2 with ⟨h', _⟩ | ⟨g', cap, cur, hv, hb, hg, h1, h2, h3, h4⟩
    · cases h'
    cases hv
    exact ⟨rfl, ownsRow_sortedI (by simp) hb hg h1 h2 h3, (Below.refl _ _).grown (grownBy_sortedI _) hbase (fun k e => by cases e; exact hb)⟩
/-- The numbers of a heap are numbers of 64 bits. -/
structure GhpL.rng (x : GhpL) : Prop where
  objs : ∀ o ∈ x.objs, Rng o.id ∧ ∀ z ∈ o.flds, Rng z
  roots : ∀ z ∈ x.roots, Rng z
  queue : ∀ z ∈ x.queue, Rng z
theorem MkW.start (w : World) (args : Array Value) (b0 : Nat) (objs : List GobL) (g : Int → Value) : MkW w (((w.alloc (.cells args 55)).alloc (.map #[] 0)).alloc (.cells #[.map (some (w.heap.size + 1))] 82)) args.toList w.heap.size (w.heap.size + 1) (w.heap.size + 1 + 1) (w.heap.size + 3) b0 objs 0 g := by
  have s1 : (w.alloc (.cells args 55)).heap.size = w.heap.size + 1 := World.size_alloc _ _
  have s2 : ((w.alloc (.cells args 55)).alloc (.map #[] 0)).heap.size = w.heap.size + 2 := by rw [World.size_alloc, s1]
  have s3 : (((w.alloc (.cells args 55)).alloc (.map #[] 0)).alloc (.cells #[.map (some (w.heap.size + 1))] 82)).heap.size = w.heap.size + 3 := by rw [World.size_alloc, s2]
  have hM : ((w.alloc (.cells args 55)).alloc (.map #[] 0)).ownsMap Try.prog 2 RV (w.heap.size + 1) 0 (.map []) := by
    have := World.ownsMap_made (w.alloc (.cells args 55)) Try.prog 2 RV
    rw [s1] at this
    exact this
  refine ⟨?_, ?_, ?_, by omega, ⟨by omega, by omega, by omega, by omega, by omega, by omega⟩, ⟨.map [], ?_⟩, ?_, ?_⟩
  · exact (((Below.refl _ _).alloc (Nat.le_refl _) _).alloc (by omega) _).alloc (by omega) _
  · intro j u hj
    have h0 : (((w.alloc (.cells args 55)).alloc (.map #[] 0)).alloc (.cells #[.map (some (w.heap.size + 1))] 82)).heap[w.heap.size]? = some (.cells args 55) := by
      rw [Below.heap_alloc _ _ _ (by omega), Below.heap_alloc _ _ _ (by omega)]
      exact heap_alloc_new w _
    exact (rangeAt_heap h0) j u hj
  · have h0 := heap_alloc_new ((w.alloc (.cells args 55)).alloc (.map #[] 0)) (.cells #[.map (some (w.heap.size + 1))] 82)
    rw [s2] at h0
    exact (rangeAt_heap h0) 0 _ rfl
  · rw [retK_zero]
    refine ⟨?_, fun z => ?_, fun z => ?_⟩
    · obtain ⟨es, clock, h1, h2⟩ := hM
      exact ⟨es, clock, by rw [Below.heap_alloc _ _ _ (by omega)]; exact h1, h2⟩
    · simp [Maps.has]
    · simp [DataW.atKey]
  · intro z hz
    rw [retK_zero] at hz
    exact absurd rfl hz
  · intro z z' hz
    rw [retK_zero] at hz
    exact absurd rfl hz
theorem own_ints {B lo : Nat} {w : World} {v : Value} {zs : List Int} (h : OutAt B w v zs) (hB : lo ≤ B) : IntsAt lo w.heap.size w v zs := by
  by_cases h0 : zs = []
  · subst h0
    obtain ⟨a, c, rfl⟩ := own_slice h
    exact .inl ⟨rfl, a, c, rfl⟩
  · obtain ⟨g, c, rfl⟩ := own_some h (List.length_pos_iff.2 h0)
    exact out_intsG h hB
theorem MkW.go {w wr W2 : World} {args : List Value} {X M V B b0 : Nat} {objs : List GobL} {g : Int → Value} (h : MkW w wr args X M V B b0 objs objs.length g) (hb : Below (wr.heap.size + 1) (wr.alloc (.cells #[.slice none 0 0] 32)) W2) : GrW W2 B M wr.heap.size b0 objs g ∧ CoW W2 W2 V M wr.heap.size objs g [] (.slice none 0 0) ∧ Below w.heap.size w W2 := by
  obtain ⟨l1, l2, l3, l4, l5, l6⟩ := h.lo
  have hs := hb.size
  rw [World.size_alloc] at hs
  have kp : ∀ j, j < wr.heap.size → W2.heap[j]? = wr.heap[j]? := fun j hj => by rw [hb.block j (by omega), Below.heap_alloc _ _ _ hj]
  have hL : W2.heap[wr.heap.size]? = some (.cells #[.slice none 0 0] 32) := by
    rw [hb.block _ (by omega)]
    exact heap_alloc_new wr _
  have hws := h.below.size
  obtain ⟨D, hD⟩ := h.mp
  rw [retK_end] at hD
  have hD2 : MapOf W2 M objs.length (retL objs []) g D := hD.kept (kp M (by omega))
  refine ⟨⟨fun z hz => ?_, ⟨_, hL⟩, ?_⟩, ⟨rfl, rfl, rfl, Nat.le_refl _, fun k _ _ _ => rfl, by omega, by omega, by omega, ⟨h.vM, by omega, by omega⟩, (World.cell?_of_block (w := wr) (kp V (by omega))).trans h.vc, ⟨_, hL⟩, by simp [World.cell?, hL], ⟨rfl, .inl ⟨rfl, rfl⟩⟩, ⟨D, hD2⟩⟩, ?_⟩
  · rw [← retK_end] at hz ⊢
    have := h.rows.row z hz
    exact own_kept this fun j hj => kp j (World.ownsRow.lt this j hj).2
  · obtain ⟨es, c, h1, _⟩ := hD2.own
    exact ⟨es, c, h1⟩
  · refine ⟨hb.os.trans h.below.os, hb.tape.trans h.below.tape, hb.output.trans h.below.output, by omega, fun j hj => (kp j (by omega)).trans (h.below.block j hj)⟩
theorem CoW.ends {w W2 w' w'' : World} {V M L : Nat} {objs : List GobL} {g : Int → Value} {lv : List Int} {lvv : Value} (h : CoW W2 w' V M L objs g lv lvv) (hb : Below w.heap.size w W2) (hM : w.heap.size ≤ M) (hL : w.heap.size ≤ L) (hs : Below W2.heap.size w' w'') : Below w.heap.size w w'' := by
  have s1 := hb.size
  have s2 := h.siz
  have s3 := hs.size
  refine ⟨hs.os.trans (h.os.trans hb.os), hs.tape.trans (h.tape.trans hb.tape), hs.output.trans (h.output.trans hb.output), by omega, fun j hj => ?_⟩
  rw [hs.block j (by omega), h.old j (by omega) (by omega) (by omega)]
  exact hb.block j hj
theorem live_sorted {W2 w'' : World} {objs : List GobL} {lv : List Int} {lvv : Value} {st : List Int} {row : List Nat} {lo : Nat} (hp : PrG objs st lv row) (hs : ClG objs lv st) (hf : FoG objs lv row row.length) (hlo : lo ≤ W2.heap.size)
    (ho : w''.ownsRow W2.heap.size 2 1 lvv lv.length ((lv.mergeSort (fun x y => decide (x ≤ y))).map (Value.int .i64))) : IntsAt lo w''.heap.size w'' lvv (liveL objs st) := by
  have hperm : (lv.mergeSort (fun x y => decide (x ≤ y))).Perm lv := List.mergeSort_perm _ _
  have hord : (lv.mergeSort (fun x y => decide (x ≤ y))).Pairwise (· ≤ ·) := (List.pairwise_mergeSort (le := fun x y => decide (x ≤ y)) (by intro a b c h1 h2; simp at h1 h2 ⊢; omega) (by intro a b; simp; omega) lv).imp fun h => by simpa using h
  rw [← hp.sorted hs hf hperm hord]
  refine own_ints (B := W2.heap.size) ?_ hlo
  show World.ownsRow _ _ _ _ _ _ _
  rw [hperm.length_eq]
  exact ho
/-- The arguments' lists in memory, as the tail of the call reads them. -/
structure ArgW (x : GhpL) (w : World) (b0 : Nat) (a1 : Option Addr) (c1 : Nat) (a2 : Option Addr) (c2 : Nat) : Prop where
  lt : b0 < w.heap.size
  ob : ∀ W, Below w.heap.size w W → ∀ k (hk : k < x.objs.length), ∃ fb fc, fb < w.heap.size ∧ GobAt W b0 k x.objs[k] fb fc
  ro : ∀ W, Below w.heap.size w W → SrcAt W 1 (.slice a1 x.roots.length c1) x.roots.length (intsV x.roots)
  qu : ∀ W, Below w.heap.size w W → SrcAt W 1 (.slice a2 x.queue.length c2) x.queue.length (intsV x.queue)
  len : x.roots.length ≤ 8 ∧ x.objs.length ≤ 8000 ∧ x.queue.length ≤ 8000
  sm : x.small
  rng : x.rng
theorem MkW.concat {x : GhpL} {w wr WL : World} {args : List Value} {X M V B b0 c1 c2 : Nat} {a1 a2 : Option Addr} {g : Int → Value} (hM : MkW w wr args X M V B b0 x.objs x.objs.length g) (hA : ArgW x w b0 a1 c1 a2 c2) (hWL : WL = wr.alloc (.cells #[.slice none 0 0] 32)) :
    Calls Try.prog 39 #[.slice (some ⟨WL.heap.size, 0, none⟩) 2 2] (WL.alloc (.cells #[.slice a1 x.roots.length c1, .slice a2 x.queue.length c2] 32)) fun e W2 => ∃ v, e = .returned v ∧ OutAt (wr.heap.size + 2) W2 v (x.roots ++ x.queue) ∧ Below (wr.heap.size + 1) (wr.alloc (.cells #[.slice none 0 0] 32)) W2 := by
  have hLs : WL.heap.size = wr.heap.size + 1 := by rw [hWL]; exact World.size_alloc _ _
  have hsP : (WL.alloc (.cells #[.slice a1 x.roots.length c1, .slice a2 x.queue.length c2] 32)).heap.size = WL.heap.size + 1 := World.size_alloc _ _
  have hrP := rangeAt_heap (heap_alloc_new WL (.cells #[.slice a1 x.roots.length c1, .slice a2 x.queue.length c2] 32))
  have hbP : Below (wr.heap.size + 1) WL (WL.alloc (.cells #[.slice a1 x.roots.length c1, .slice a2 x.queue.length c2] 32)) := (Below.refl _ _).alloc (by omega) _
  have hbw : ∀ W, Below (wr.heap.size + 1) WL W → Below w.heap.size w W := fun W hW => (hM.go (W2 := W) (by rw [← hWL]; exact hW)).2.2
  have hsrc : ∀ (b c : Nat) (zs : List Int), b < w.heap.size → (∀ j (hj : j < zs.length), w.cell? ⟨b, j, none⟩ = some (.int .i64 zs[j])) → ∀ W, Below (wr.heap.size + 1) WL W → SrcAt W 1 (.slice (some ⟨b, 0, none⟩) zs.length c) zs.length (intsV zs) := fun b c zs hb hz W hW => by
    have := src_cellsG (W := W) (b := b) (n := zs.length) (c := c) (o := 0) (m := 0) (zs := zs) (fun j hj => ((hbw W hW).cell (p := ⟨b, j, none⟩) hb).trans (hz j hj)) (Nat.zero_le _) (fun _ => rfl) c
    simpa using this
  generalize hP : WL.alloc (.cells #[.slice a1 x.roots.length c1, .slice a2 x.queue.length c2] 32) = WP at *
  have hmono : ∀ W, Below WP.heap.size WP W → Below (wr.heap.size + 1) WL W := fun W hW => hbP.trans (hW.mono (by omega))
  obtain ⟨l1, l2, l3⟩ := hA.len
  refine (concat2_calls WL.heap.size a1 a2 x.roots.length x.queue.length c1 c2 x.roots x.queue WP rfl rfl (hrP 0 _ rfl) (hrP 1 _ rfl) (by omega) (by omega) (fun W hW => hA.ro W (hbw W (hmono W hW))) (fun W hW => hA.qu W (hbw W (hmono W hW)))).mono ?_
  rintro e W2 ⟨v, rfl, hv, hb2⟩
  refine ⟨v, rfl, ?_, by rw [← hWL]; exact hmono W2 hb2⟩
  rw [hsP, hLs] at hv
  exact hv
theorem MkW.reach {x : GhpL} {w wr W2 : World} {args : List Value} {X M V B b0 c1 c2 : Nat} {a1 a2 : Option Addr} {g : Int → Value} {ia : Option Addr} {n ic : Nat} (hM : MkW w wr args X M V B b0 x.objs x.objs.length g) (hA : ArgW x w b0 a1 c1 a2 c2) (hv : OutAt (wr.heap.size + 2) W2 (.slice ia n ic) (x.roots ++ x.queue)) (hb2 : Below (wr.heap.size + 1) (wr.alloc (.cells #[.slice none 0 0] 32)) W2) :
    n = (x.roots ++ x.queue).length ∧ Below w.heap.size w W2 ∧ Calls Try.prog 38 #[.slice ia n ic, .bool true, .func (.func 40) #[] #[.pointer (some ⟨V, 0, none⟩), .pointer (some ⟨wr.heap.size, 0, none⟩)]] W2 fun e w' => e = .returned (.tuple #[]) ∧ ReachP W2 w' V M wr.heap.size x.objs g (x.roots ++ x.queue) := by
  obtain ⟨hGr, hCo, hBw⟩ := hM.go hb2
  obtain ⟨l1, l2, l3, l4, l5, l6⟩ := hM.lo
  obtain ⟨k1, k2, k3⟩ := hA.len
  have hbl := hA.lt
  have hBw2 := hBw.size
  have hws := hM.below.size
  have hvl : ∀ j, (Value.slice ia n ic).ownBlock = some j → wr.heap.size + 1 < j ∧ j < W2.heap.size := fun j hj => by
    have := World.ownsRow.lt hv j hj
    omega
  obtain ⟨ia', ic', e⟩ := own_slice hv
  injection e with e1 e2 e3
  subst e1 e2 e3
  have hcap : (x.roots ++ x.queue).length ≤ ic := own_cap hv
  refine ⟨rfl, hBw, ?_⟩
  refine reach_calls W2 B _ _ _ b0 x.objs g (x.roots ++ x.queue) ia ic hGr hCo (by omega) (by rw [List.length_append]; omega) (fun j hj => ?_) hcap ⟨by omega, by omega, by omega⟩ (fun k hk => ?_) ?_ (fun o ho => (hA.rng.objs o ho).2) (fun o ho => hA.sm.2.2.2.2.2 o ho)
  · obtain ⟨ib, c, e⟩ := own_some hv (by omega)
    injection e with e1 e2 e3
    subst e1
    have := hvl ib rfl
    exact ⟨ib, rfl, ⟨by omega, by omega, by omega⟩, OutAt.cell hv hj⟩
  · obtain ⟨fb, fc, hfb, hG⟩ := hA.ob W2 hBw k hk
    exact ⟨fb, fc, ⟨by omega, by omega, by omega⟩, hG⟩
  · intro z hz
    rcases List.mem_append.1 hz with hz | hz
    · exact hA.rng.roots z hz
    · exact hA.rng.queue z hz
/-- The values of the region that puts an object into the map. -/
def mpVal (M b0 k : Nat) (z : Int) (rv : Value) : Nat → Value → Nat → Nat → World → Prop
  | 0, v, _, _, _ => v = .map (some M)
  | 4, v, _, _, _ => v = .int .i64 z
  | 5, v, _, _, _ => v = .map (some M)
  | 9, v, _, _, _ => v = .int .i64 z
  | 10, v, _, _, _ => v = rv
  | 12, v, lo, hi, w => OwnInK lo hi w 83 1 v 1 (ptrsV b0 [k])
  | _, v, _, _, _ => v = .pointer (some ⟨b0, k * 5, none⟩)
theorem mpVal_below (M b0 k : Nat) (z : Int) (rv : Value) : ∀ i v lo hi (w w' : World), Below w.heap.size w w' → hi ≤ w.heap.size → mpVal M b0 k z rv i v lo hi w → mpVal M b0 k z rv i v lo hi w' := by
  intro i v lo hi w w' hb hh h
  by_cases e : i = 12
  · subst e
    exact OwnInK.below h hb hh
  · unfold mpVal at h ⊢
    split at h <;> first | exact h | (exfalso; simp_all) | (split <;> first | exact h | (exfalso; simp_all))
def mpPV (M b0 k : Nat) (z : Int) : Nat → Value → Prop
  | 0, v => v = .map (some M)
  | 4, v => v = .int .i64 z
  | _, v => v = .pointer (some ⟨b0, k * 5, none⟩)
def mpPure (i : Nat) : Bool := decide (i ≤ 4)
theorem mpPure_cases {i : Nat} (h : mpPure i = true) : i = 0 ∨ i = 1 ∨ i = 2 ∨ i = 3 ∨ i = 4 := by
  simp [mpPure] at h
  omega
/-- Behind the append. -/
structure MpR (wr : World) (B b0 k : Nat) (f : List Nat) (rv v : Value) (W W1 : World) : Prop where
  b1 : Below wr.heap.size wr W1
  g2 : W1.grownBy W rv.ownBlock
  own : W.ownsRow B 83 1 v (f.length + 1) (ptrsV b0 f ++ ptrsV b0 [k])
  at_ : v.ownBlock = rv.ownBlock ∨ v.ownBlock = some W1.heap.size
def mpRR (wr : World) (B b0 k : Nat) (f : List Nat) (rv : Value) : Nat → (Nat → Value) → World → Prop := fun _ vs W => ∃ W1, MpR wr B b0 k f rv (vs 13) W W1
theorem mpRR_loc (wr : World) (B b0 k : Nat) (f : List Nat) (rv : Value) : ∀ q vs i v w, mpPure i = true → mpRR wr B b0 k f rv q vs w → mpRR wr B b0 k f rv q (upd vs i v) w := by
  intro q vs i v w hp h
  obtain ⟨W1, h⟩ := h
  refine ⟨W1, ?_⟩
  rw [upd_other]
  · exact h
  · have := mpPure_cases hp
    omega
theorem MpR.block {w wr : World} {args : List Value} {X M V B b0 k m : Nat} {objs : List GobL} {g : Int → Value} {z : Int} {v : Value} {W W1 : World} (hM : MkW w wr args X M V B b0 objs k g) (h : MpR wr B b0 m (retK objs k z) (rowV objs k g z) v W W1) {j : Nat} (hj : j < B) : W.heap[j]? = wr.heap[j]? := by
  obtain ⟨l1, l2, l3, l4, l5, l6⟩ := hM.lo
  have hrv := hM.rows.val z
  have s1 := h.b1.size
  rw [h.g2.block j (by omega) (fun e => by have := (World.ownsRow.lt hrv j e.symm).1; omega), h.b1.block j (by omega)]
theorem src_own' {w : World} {B e : Nat} {v : Value} {n : Nat} {xs : List Value} (h : w.ownsRow B e 1 v n xs) (hn : 0 < n) : SrcAt w 1 v n xs := by
  obtain ⟨g, c, rfl⟩ := own_some h hn
  refine .inr ⟨⟨g, 0, none⟩, c, rfl, h.1, fun j u hj => ?_⟩
  rw [Addr.add_lit, Nat.zero_add]
  have := World.ownsRow.cells h (g := g) rfl j u hj
  rwa [Addr.add_lit, Nat.zero_add] at this
set_option maxRecDepth 100000 in
set_option maxHeartbeats 4000000 in
theorem implLive_gen (x : GhpL) (w : World) (b0 c0 c1 c2 : Nat) (a1 a2 : Option Addr) (v4 v5 : Value) (hA : ArgW x w b0 a1 c1 a2 c2) (hc0 : x.objs.length ≤ c0) : Calls Try.prog 20 #[.agg #[.slice (some ⟨b0, 0, none⟩) x.objs.length c0, .slice a1 x.roots.length c1, .slice a2 x.queue.length c2, .int .i64 x.from_, v4, v5]] w fun e w' => ∃ v, e = .returned v ∧ IntsAt w.heap.size w'.heap.size w' v (liveL x.objs (x.roots ++ x.queue)) ∧ Below w.heap.size w w' := by
  have h1 : (x.roots.length : Int) ≤ 8 := by have := hA.len; omega
  have h2 : (x.objs.length : Int) ≤ 8000 := by have := hA.len; omega
  have h3 : (x.queue.length : Int) ≤ 8000 := by have := hA.len; omega
  have hobH : Hid (∀ W, Below w.heap.size w W → ∀ k (hk : k < x.objs.length), ∃ fb fc, fb < w.heap.size ∧ GobAt W b0 k x.objs[k] fb fc) := hA.ob
  have hbs : Hid (b0 < w.heap.size) := hA.lt
  have hAH : Hid (ArgW x w b0 a1 c1 a2 c2) := hA
  have hrH : Hid x.rng := hA.rng
  have hsH : Hid x.small := hA.sm
  clear hA
  have hc0' : (x.objs.length : Int) ≤ c0 := by omega
  go_enter Try.func20, Try.ntmps20
  have hmm := @run_makeMap Try.prog
  go_upto_region 5 with fail
  have hW0 : Hid (MkW w (((w.alloc (.cells #[.slice (some ⟨b0, 0, none⟩) x.objs.length c0, .slice a1 x.roots.length c1, .slice a2 x.queue.length c2, .int .i64 x.from_, v4, v5] 55)).alloc (.map #[] 0)).alloc (.cells #[.map (some (w.heap.size + 1))] 82)) [.slice (some ⟨b0, 0, none⟩) x.objs.length c0, .slice a1 x.roots.length c1, .slice a2 x.queue.length c2, .int .i64 x.from_, v4, v5] w.heap.size (w.heap.size + 1) (w.heap.size + 1 + 1) (w.heap.size + 3) b0 x.objs 0 (fun _ => nilV)) := MkW.start w _ b0 x.objs _
  generalize (((w.alloc (.cells #[.slice (some ⟨b0, 0, none⟩) x.objs.length c0, .slice a1 x.roots.length c1, .slice a2 x.queue.length c2, .int .i64 x.from_, v4, v5] 55)).alloc (.map #[] 0)).alloc (.cells #[.map (some (w.heap.size + 1))] 82)) = W0 at *
  clear hmm
  go_loopw [25] (fun i wr => ∃ (k : Nat) (g : Int → Value), k ≤ x.objs.length ∧ i = .int .i64 k ∧ Hid (MkW w wr [.slice (some ⟨b0, 0, none⟩) x.objs.length c0, .slice a1 x.roots.length c1, .slice a2 x.queue.length c2, .int .i64 x.from_, v4, v5] w.heap.size (w.heap.size + 1) (w.heap.size + 1 + 1) (w.heap.size + 3) b0 x.objs k g)) (fun i _ => x.objs.length - (intOf i).toNat)
  case atStart => exact ⟨0, _, Nat.zero_le _, rfl, hW0⟩
  case round =>
    clear hW0
    obtain ⟨k, g, hk, rfl, hM⟩ := hrel
    have hk0 : (0 : Int) ≤ k := by omega
    by_cases hlt : k < x.objs.length
    · have hlt' : (k : Int) < (x.objs.length : Int) := by omega
      obtain ⟨fb, fc, hfb, hG⟩ := hobH.out wr hM.out.below k hlt
      have kX : wr.cell? ⟨w.heap.size, 0, none⟩ = some (.slice (some ⟨b0, 0, none⟩) x.objs.length c0) := hM.out.xc 0 _ rfl
      have kV := hM.out.vc
      have kI := hG.c0
      clear hG hfb
      by_cases hid : x.objs[k].id = 0
      · have hM2 : Hid (MkW w wr [.slice (some ⟨b0, 0, none⟩) x.objs.length c0, .slice a1 x.roots.length c1, .slice a2 x.queue.length c2, .int .i64 x.from_, v4, v5] w.heap.size (w.heap.size + 1) (w.heap.size + 1 + 1) (w.heap.size + 3) b0 x.objs (k + 1) g) := hM.out.skip hlt hid
        rw [hid] at kI
        clear hM hid
        go_wp2
        go_roundw
        case rel => exact ⟨k + 1, g, by omega, by go_num, hM2⟩
        case measure => simp [intOf]; omega
      · have hidH : Hid (x.objs[k].id ≠ 0) := hid
        have hrg : Hid (Rng x.objs[k].id) := (hrH.out.objs _ (List.getElem_mem hlt)).1
        obtain ⟨z, hz⟩ : ∃ z, z = x.objs[k].id := ⟨_, rfl⟩
        have hzH : Hid (z = x.objs[k].id) := hz
        rw [← hz] at kI hid
        clear hz
        go_upto_region 9 with fail
        have hCells : Hid (∀ W : World, (∀ j, j < (w.heap.size + 3) → W.heap[j]? = wr.heap[j]?) → W.cell? ⟨(w.heap.size + 1 + 1), 0, none⟩ = some (.map (some (w.heap.size + 1))) ∧ W.cell? ⟨b0, k * 5, none⟩ = some (.int .i64 z)) := fun W hW => ⟨(World.cell?_of_block (w := wr) (hW (w.heap.size + 1 + 1) (by omega))).trans hM.out.vc, (World.cell?_of_block (w := wr) (hW b0 (by have := hbs.out; omega))).trans kI⟩
        obtain ⟨D, hD⟩ := hM.out.mp
        have hDH : Hid (MapOf wr (w.heap.size + 1) k (retK x.objs k) g D) := hD
        have hat : Hid (D.atKey (.int .i64 z) (.held nilV) = .held (rowV x.objs k g z)) := hD.at_ z
        have hkey : Hid (keyOf Try.prog 2 (.int .i64 z) = some (.int .i64 z)) := keyOf_int_mk Try.underlying2 (WalkArith.wf_i64 (by have := hrg.out; rw [← hzH.out] at this; unfold Rng at this; omega))
        obtain ⟨i9, hi9, hz9, hs9, hb9⟩ := info_parts (show (Try.prog.info? 83).map (fun i => (i.zero, i.size, i.bytes)) = some (some (.pointer none), 1, 8) by kernel_rfl)
        have hrl : Hid ((retK x.objs k z).length ≤ k) := retK_len _ _ _
        clear hD kI kV kX
        refine wp_region_mixed (by kernel_rfl) (fun vs => { tmps := #[.agg #[.slice (some ⟨b0, 0, none⟩) x.objs.length c0, .slice a1 x.roots.length c1, .slice a2 x.queue.length c2, .int .i64 x.from_, v4, v5], .pointer (some ⟨w.heap.size, 0, none⟩), .slice none 0 0, .pointer (some ⟨(w.heap.size + 1 + 1), 0, none⟩), .int .i64 (k : Int), .pointer (some ⟨b0, k * 5, none⟩), undef, .pointer (some ⟨w.heap.size, 1, none⟩), .slice a1 x.roots.length c1, .int .i64 (x.roots.length : Int), .bool (decide (8 < (x.roots.length : Int))), .bool (decide (8 < (x.roots.length : Int))), .pointer (some ⟨w.heap.size, 0, none⟩), .slice (some ⟨b0, 0, none⟩) x.objs.length c0, .int .i64 (x.objs.length : Int), .pointer (some ⟨w.heap.size, 2, none⟩), .slice a2 x.queue.length c2, .int .i64 (x.queue.length : Int), .int .i64 (max (x.objs.length : Int) (x.queue.length : Int)), .bool (decide (8000 < max (x.objs.length : Int) (x.queue.length : Int))), .bool (decide (8 < (x.roots.length : Int)) || decide (8000 < max (x.objs.length : Int) (x.queue.length : Int))), .map (some (w.heap.size + 1)), .pointer (some ⟨w.heap.size, 0, none⟩), .slice (some ⟨b0, 0, none⟩) x.objs.length c0, .int .i64 (x.objs.length : Int), .int .i64 (k : Int), .bool true, .int .i64 (k : Int), .pointer (some ⟨w.heap.size, 0, none⟩), .slice (some ⟨b0, 0, none⟩) x.objs.length c0, .int .i64 (k : Int), .pointer (some ⟨b0, k * 5, none⟩), .pointer (some ⟨b0, k * 5, none⟩), .pointer (some ⟨b0, k * 5, none⟩), .pointer (some ⟨b0, k * 5, none⟩), .int .i64 z, .bool (z != 0), vs 0, vs 1, vs 2, vs 3, vs 4, vs 5, vs 6, vs 7, vs 8, vs 9, vs 10, vs 11, vs 12, vs 13, u51, undef, undef, undef, undef, undef, undef, undef, undef, undef, undef, undef], defers := [] }) (mpVal (w.heap.size + 1) b0 k z (rowV x.objs k g z)) (fun _ => none) (fun i i' j h h' => by simp at h) (fun i j h => by simp at h) 13 [] mpPure (mpPV (w.heap.size + 1) b0 k z) (mpRR wr (w.heap.size + 3) b0 k (retK x.objs k z) (rowV x.objs k g z)) (fun i => if i = 0 then u37 else if i = 1 then u38 else if i = 2 then u39 else if i = 3 then u40 else if i = 4 then u41 else if i = 5 then u42 else if i = 6 then u43 else if i = 7 then u44 else if i = 8 then u45 else if i = 9 then u46 else if i = 10 then u47 else if i = 11 then u48 else if i = 12 then u49 else if i = 13 then u50 else  undef) rfl (by kernel_rfl) (mpVal_below _ _ _ _ _) (fun i v lo hi w hp h => by rcases mpPure_cases hp with rfl | rfl | rfl | rfl | rfl <;> exact h) (mpRR_loc _ _ _ _ _ _) (allAt_all ⟨?_, ?_, ?_, ?_, ?_, ?_, ?_, ?_, ?_, ?_, ?_, ?_, ?_, ?_, ?_, trivial⟩) (allAt_all ⟨?_, ?_, ?_, ?_, ?_, ?_, ?_, ?_, ?_, ?_, ?_, ?_, ?_, ?_, ?_, trivial⟩) ?_ ?_ ?_
        case refine_1 =>
          intro _ _ vs lo hi W hB hv
          have kV := (hCells.out W (fun j hj => hB.block j (by have := hM.out.lo; omega))).1
          go_wp2
          exact RegPost.own (.map (some (w.heap.size + 1))) rfl (Below.refl _ _) rfl
        case refine_2 =>
          intro _ _ vs lo hi W hB hv
          go_wp2
          exact RegPost.own (.pointer (some ⟨b0, k * 5, none⟩)) rfl (Below.refl _ _) rfl
        case refine_3 =>
          intro _ _ vs lo hi W hB hv
          have e1 : vs 1 = (.pointer (some ⟨b0, k * 5, none⟩)) := (hv ⟨1, .data⟩ (by simp) rfl).1
          simp only [e1]
          go_wp2
          exact RegPost.own (.pointer (some ⟨b0, k * 5, none⟩)) (by rw [← e1]; rfl) (Below.refl _ _) rfl
        case refine_4 =>
          intro _ _ vs lo hi W hB hv
          have e2 : vs 2 = (.pointer (some ⟨b0, k * 5, none⟩)) := (hv ⟨2, .data⟩ (by simp) rfl).1
          simp only [e2]
          go_wp2
          exact RegPost.own (.pointer (some ⟨b0, k * 5, none⟩)) (by rw [← e2]; rfl) (Below.refl _ _) rfl
        case refine_5 =>
          intro _ _ vs lo hi W hB hv
          have e3 : vs 3 = (.pointer (some ⟨b0, k * 5, none⟩)) := (hv ⟨3, .data⟩ (by simp) rfl).1
          have kI := (hCells.out W (fun j hj => hB.block j (by have := hM.out.lo; omega))).2
          simp only [e3]
          go_wp2
          exact RegPost.own (.int .i64 z) (by rw [← e3]; rfl) (Below.refl _ _) rfl
        case refine_6 =>
          intro _ _ vs lo hi W hB hv
          have kV := (hCells.out W (fun j hj => hB.block j (by have := hM.out.lo; omega))).1
          go_wp2
          exact RegPost.own (.map (some (w.heap.size + 1))) rfl (Below.refl _ _) rfl
        case refine_7 =>
          intro _ _ vs lo hi W hB hv
          go_wp2
          exact RegPost.own (.pointer (some ⟨b0, k * 5, none⟩)) rfl (Below.refl _ _) rfl
        case refine_8 =>
          intro _ _ vs lo hi W hB hv
          have e6 : vs 6 = (.pointer (some ⟨b0, k * 5, none⟩)) := (hv ⟨6, .data⟩ (by simp) rfl).1
          simp only [e6]
          go_wp2
          exact RegPost.own (.pointer (some ⟨b0, k * 5, none⟩)) (by rw [← e6]; rfl) (Below.refl _ _) rfl
        case refine_9 =>
          intro _ _ vs lo hi W hB hv
          have e7 : vs 7 = (.pointer (some ⟨b0, k * 5, none⟩)) := (hv ⟨7, .data⟩ (by simp) rfl).1
          simp only [e7]
          go_wp2
          exact RegPost.own (.pointer (some ⟨b0, k * 5, none⟩)) (by rw [← e7]; rfl) (Below.refl _ _) rfl
        case refine_10 =>
          intro _ _ vs lo hi W hB hv
          have e8 : vs 8 = (.pointer (some ⟨b0, k * 5, none⟩)) := (hv ⟨8, .data⟩ (by simp) rfl).1
          have kI := (hCells.out W (fun j hj => hB.block j (by have := hM.out.lo; omega))).2
          simp only [e8]
          go_wp2
          exact RegPost.own (.int .i64 z) (by rw [← e8]; rfl) (Below.refl _ _) rfl
        case refine_11 =>
          intro _ _ vs lo hi W hB hv
          have e5 : vs 5 = .map (some (w.heap.size + 1)) := (hv ⟨5, .data⟩ (by simp) rfl).1
          have e9 : vs 9 = .int .i64 z := (hv ⟨9, .data⟩ (by simp) rfl).1
          have hown : W.ownsMap Try.prog 2 RV (w.heap.size + 1) k D := (hDH.out.kept (hB.block _ (by have := hM.out.lo; omega))).own
          simp only [e5, e9]
          refine wpList_lookup_own _ rfl _ _ 82 rfl 2 84 keyI Try.underlying82 RV (zeroP _) (.held nilV) [] rfl (w.heap.size + 1) k D rfl hown _ _ rfl hkey.out ?_
          intro v ps hv2
          rw [hat.out] at hv2
          obtain rfl : v = (rowV x.objs k g z) := (by have hv' := hv2; simp only [RV, Option.some.injEq, Prod.mk.injEq, DataW.held.injEq] at hv'; exact hv'.1)
          refine wpList_nil ?_
          exact RegPost.own (rowV x.objs k g z) (by rw [← e5, ← e9]; rfl) (Below.refl _ _) rfl
        case refine_12 =>
          intro _ _ vs lo hi W hB hv
          go_wp2
          exact RegPost.own (.pointer (some ⟨b0, k * 5, none⟩)) rfl (Below.refl _ _) rfl
        case refine_13 =>
          intro _ _ vs lo hi W hB hv
          have e11 : vs 11 = (.pointer (some ⟨b0, k * 5, none⟩)) := (hv ⟨11, .data⟩ (by simp) rfl).1
          simp only [e11]
          go_wp2
          exact RegPost.own (.slice (some ⟨W.heap.size, 0, none⟩) 1 1) (by rw [← e11]; rfl) (below_1 _ _) (OwnInK.made (World.ownsRow_lit W #[(.pointer (some ⟨b0, k * 5, none⟩))] 1 (Nat.le_refl _) (by unfold maxLen; omega) rfl))
        case refine_14 => exact fun h => absurd (by decide) h
        case refine_15 => exact fun _ h => absurd h (by simp)
        case refine_16 =>
          intro _ _ q vs W hR hv
          have kV := (hCells.out W (fun j hj => hR.choose_spec.block hM.out hj)).1
          go_wp2
          exact PurePost.mk' (.map (some (w.heap.size + 1))) rfl rfl
        case refine_17 =>
          intro _ _ q vs W hR hv
          go_wp2
          exact PurePost.mk' (.pointer (some ⟨b0, k * 5, none⟩)) rfl rfl
        case refine_18 =>
          intro _ _ q vs W hR hv
          have e1 : vs 1 = (.pointer (some ⟨b0, k * 5, none⟩)) := hv ⟨1, .data⟩ (by simp) rfl rfl
          simp only [e1]
          go_wp2
          exact PurePost.mk' (.pointer (some ⟨b0, k * 5, none⟩)) (by rw [← e1]; rfl) rfl
        case refine_19 =>
          intro _ _ q vs W hR hv
          have e2 : vs 2 = (.pointer (some ⟨b0, k * 5, none⟩)) := hv ⟨2, .data⟩ (by simp) rfl rfl
          simp only [e2]
          go_wp2
          exact PurePost.mk' (.pointer (some ⟨b0, k * 5, none⟩)) (by rw [← e2]; rfl) rfl
        case refine_20 =>
          intro _ _ q vs W hR hv
          have e3 : vs 3 = (.pointer (some ⟨b0, k * 5, none⟩)) := hv ⟨3, .data⟩ (by simp) rfl rfl
          have kI := (hCells.out W (fun j hj => hR.choose_spec.block hM.out hj)).2
          simp only [e3]
          go_wp2
          exact PurePost.mk' (.int .i64 z) (by rw [← e3]; rfl) rfl
        case refine_21 => exact fun h => absurd h (by decide)
        case refine_22 => exact fun h => absurd h (by decide)
        case refine_23 => exact fun h => absurd h (by decide)
        case refine_24 => exact fun h => absurd h (by decide)
        case refine_25 => exact fun h => absurd h (by decide)
        case refine_26 => exact fun h => absurd h (by decide)
        case refine_27 => exact fun h => absurd h (by decide)
        case refine_28 => exact fun h => absurd h (by decide)
        case refine_29 => exact fun h => absurd h (by decide)
        case refine_30 => exact fun h => absurd h (by decide)
        case refine_31 =>
          intro o ho vs lo hi W hB hv
          obtain rfl := Option.some.inj ho
          have e10 : vs 10 = (rowV x.objs k g z) := (hv ⟨10, .data⟩ (by simp) rfl).1
          obtain ⟨h12, _, _, _⟩ := hv ⟨12, .data⟩ (by simp) rfl
          have h12 : W.ownsRow (lo 12) 83 1 (vs 12) 1 (ptrsV b0 [k]) := h12.1
          have hl := hM.out.lo
          have hrow : W.ownsRow (w.heap.size + 3) 83 1 (rowV x.objs k g z) (retK x.objs k z).length (ptrsV b0 (retK x.objs k z)) := own_below (hM.out.rows.val z) hB (fun j hj => (World.ownsRow.lt (hM.out.rows.val z) j hj).2)
          refine wpList_append_src rfl (.tmp 47) (.tmp 49) 84 rfl (w.heap.size + 3) 83 i9 (.pointer none) 1 8 Try.underlying84 hi9 hz9 hs9 hb9 rfl (by omega) (rowV x.objs k g z) (retK x.objs k z).length (ptrsV b0 (retK x.objs k z)) e10 hrow (vs 12) 1 (ptrsV b0 [k]) rfl (src_own' h12 (by omega)) (ptrsV_one _ _) (by have := hrl.out; unfold maxLen; omega) (by have := hrl.out; omega) (by have := hB.size; omega) ?_
          intro v' w' hown hgrow hat2
          refine wpList_nil ?_
          exact ⟨v', rfl, W, hB, hgrow, by rw [upd_same]; exact hown, by rw [upd_same]; exact hat2⟩
        case refine_32 => intro q c o hq; simp at hq
        case refine_33 =>
          intro o ho vs W hR hv
          obtain rfl := Option.some.inj ho
          obtain ⟨W1, hR⟩ := hR
          have e0 : vs 0 = .map (some (w.heap.size + 1)) := hv 0 (by decide) rfl
          have e4 : vs 4 = .int .i64 z := hv 4 (by decide) rfl
          have hRH : Hid (MpR wr (w.heap.size + 3) b0 k (retK x.objs k z) (rowV x.objs k g z) (vs 13) W W1) := hR
          have hown : Hid (W.ownsMap Try.prog 2 RV (w.heap.size + 1) k D) := (hDH.out.kept (hR.block hM.out (by omega))).own
          clear hR hv
          simp only [e0, e4]
          refine wpList_mapUpdate_in _ rfl _ _ _ 82 rfl 2 84 keyI Try.underlying82 RV (w.heap.size + 1) k D rfl hown.out (by unfold maxLen; omega) _ _ _ rfl rfl hkey.out (.held (vs 13)) [] rfl ?_
          intro w3 hown3 hturn
          have hNext : Hid (∃ g', MkW w w3 [.slice (some ⟨b0, 0, none⟩) x.objs.length c0, .slice a1 x.roots.length c1, .slice a2 x.queue.length c2, .int .i64 x.from_, v4, v5] w.heap.size (w.heap.size + 1) (w.heap.size + 1 + 1) (w.heap.size + 3) b0 x.objs (k + 1) g') := by
            have h2 := hzH.out
            have hg2 := hRH.out.g2
            have ho2 := hRH.out.own
            have ha2 := hRH.out.at_
            have ho3 := hown3
            rw [h2] at hg2 ho2 ha2 ho3
            exact hM.out.put hlt hidH.out hRH.out.b1 hg2 ho2 ha2 hDH.out ho3 hturn
          obtain ⟨g', hM3⟩ := hNext.out
          have hM3H : Hid (MkW w w3 [.slice (some ⟨b0, 0, none⟩) x.objs.length c0, .slice a1 x.roots.length c1, .slice a2 x.queue.length c2, .int .i64 x.from_, v4, v5] w.heap.size (w.heap.size + 1) (w.heap.size + 1 + 1) (w.heap.size + 3) b0 x.objs (k + 1) g') := hM3
          clear hNext hM3 hown3 hturn hown hRH hDH hat hM hCells e0 e4
          refine wpList_nil ?_
          go_wp2
          go_roundw
          case rel => exact ⟨k + 1, g', by omega, by go_num, hM3H⟩
          case measure => simp [intOf]; omega
    · have hge : ¬ ((k : Int) < (x.objs.length : Int)) := by omega
      obtain rfl : k = x.objs.length := by omega
      have hxs : Hid (w.heap.size < wr.heap.size) := by have := hM.out.lo; show _ < _; omega
      go_upto_region 12 with fail
      have hLs : (wr.alloc (.cells #[.slice none 0 0] 32)).heap.size = wr.heap.size + 1 := World.size_alloc _ _
      have hbL : Hid (Below (wr.heap.size + 1) (wr.alloc (.cells #[.slice none 0 0] 32)) (wr.alloc (.cells #[.slice none 0 0] 32))) := Below.refl _ _
      have kX1 : (wr.alloc (.cells #[.slice none 0 0] 32)).cell? ⟨w.heap.size, 1, none⟩ = some (.slice a1 x.roots.length c1) := (World.cell?_of_block (w := wr) (Below.heap_alloc _ _ _ hxs.out)).trans (hM.out.xc 1 _ rfl)
      have kX2 : (wr.alloc (.cells #[.slice none 0 0] 32)).cell? ⟨w.heap.size, 2, none⟩ = some (.slice a2 x.queue.length c2) := (World.cell?_of_block (w := wr) (Below.heap_alloc _ _ _ hxs.out)).trans (hM.out.xc 2 _ rfl)
      obtain ⟨WL, hWL⟩ : ∃ WL, WL = wr.alloc (.cells #[.slice none 0 0] 32) := ⟨_, rfl⟩
      have hWLH : Hid (WL = wr.alloc (.cells #[.slice none 0 0] 32)) := hWL
      rw [← hWL] at hLs kX1 kX2 ⊢
      clear hWL hbL
      have hLsH : Hid (WL.heap.size = wr.heap.size + 1) := hLs
      clear hLs
      go_wp2_with (go_at_call 39; fail)
      refine (hM.out.concat hAH.out hWLH.out).mono ?_
      rintro e W2 ⟨v, rfl, hv, hb2⟩
      obtain ⟨ia, ic, rfl⟩ := own_slice hv
      have hrc := hM.out.reach hAH.out hv hb2
      have hRc := hrc.2.2
      have hRcH : Hid (Calls Try.prog 38 #[.slice ia (x.roots ++ x.queue).length ic, .bool true, .func (.func 40) #[] #[.pointer (some ⟨w.heap.size + 1 + 1, 0, none⟩), .pointer (some ⟨wr.heap.size, 0, none⟩)]] W2 fun e w' => e = .returned (.tuple #[]) ∧ ReachP W2 w' (w.heap.size + 1 + 1) (w.heap.size + 1) wr.heap.size x.objs g (x.roots ++ x.queue)) := hRc
      have hBwH : Hid (Below w.heap.size w W2) := hrc.2.1
      have hMl : Hid (w.heap.size ≤ wr.heap.size) := Nat.le_of_lt hxs.out
      have hll : Hid (wr.heap.size < W2.heap.size) := Nat.lt_of_lt_of_le (by rw [World.size_alloc]; exact Nat.lt_succ_self _) hb2.size
      clear hrc hRc hb2 hv hM hLsH hWLH hobH kX1 kX2
      generalize (x.roots ++ x.queue).length = nn at *
      have h8 : Hid (x.objs.length ≤ 8000) := hAH.out.len.2.1
      clear hAH hrH hsH hbs
      go_wp2_with (first
        | (go_at_call 38; refine (show Calls _ _ _ _ _ from hRcH.out).mono ?_; rintro e W3 ⟨rfl, hP3⟩; obtain ⟨lv, lvv, rowN, hCo3, hPr, hCl, hFo⟩ := hP3.out; have hCo3H : Hid (CoW W2 W3 (w.heap.size + 1 + 1) (w.heap.size + 1) wr.heap.size x.objs g lv lvv) := hCo3; have hPrH : Hid (PrG x.objs (x.roots ++ x.queue) lv rowN) := hPr; have hClH : Hid (ClG x.objs lv (x.roots ++ x.queue)) := hCl; have hFoH : Hid (FoG x.objs lv rowN rowN.length) := hFo; have kL := hCo3.lc; have hSo : Hid (Calls Try.prog 41 #[lvv] W3 fun e w' => e = .returned (.tuple #[]) ∧ w'.ownsRow W2.heap.size 2 1 lvv lv.length ((lv.mergeSort (fun x y => decide (x ≤ y))).map (Value.int .i64)) ∧ Below W2.heap.size W3 w') := sort_calls W2.heap.size lvv lv W3 hCo3.siz (Nat.le_trans hPr.len h8.out) hCo3.lo; clear hCo3 hPr hCl hFo hP3)
        | (go_at_call 41; fail))
      refine (show Calls _ _ _ _ _ from hSo.out).mono ?_
      rintro e W4 ⟨rfl, hs4, hb4⟩
      have kL4 : W4.cell? ⟨wr.heap.size, 0, none⟩ = some lvv := (hb4.cell (p := ⟨wr.heap.size, 0, none⟩) hll.out).trans kL
      have hIn : Hid (IntsAt w.heap.size W4.heap.size W4 lvv (liveL x.objs (x.roots ++ x.queue))) := live_sorted hPrH.out hClH.out hFoH.out hBwH.out.size hs4
      have hBe : Hid (Below w.heap.size w W4) := hCo3H.out.ends hBwH.out (Nat.le_add_right _ _) hMl.out hb4
      clear hs4 hb4 kL
      go_wp2
      go_ret
      exact ⟨lvv, rfl, hIn.out, hBe.out⟩
end Go.Proofs.Ytchcdlelaklnnaa
