/- Copies of records: plain fields one by one, lists by their own copies. -/
import Derived.Test.YtkkfkbcdcdifdaaGreatDoorDeepB
namespace Go.Proofs.YtkkfkbcdcdifdaaGreatDoor
set_option linter.unusedVariables false
open Go.ChangeShapes Go.WideShapes Go.ChangeAt Go.RowKit

theorem rangeAt_heap {w : World} {g : Nat} {cs : Array Value} {t : TypeId} {fr : Nat × Nat} (h : w.heap[g]? = some (.cells cs t fr)) : w.rangeAt g 0 cs.toList := fun j v hv => by
  simp only [World.cell?, Nat.zero_add, h]
  simpa using hv
theorem there_heap {w : World} {g : Nat} {cs : Array Value} {t : TypeId} (h : w.heap[g]? = some (.cells cs t (0, 0))) : w.there g 0 cs.size := fun j hj => by
  constructor
  · simp [World.cell?, h, hj]
  · simp [World.frozen?, h]

theorem heap_mid3 (w : World) (a b c : Obj) : (((w.alloc a).alloc b).alloc c).heap[w.heap.size + 1]? = some b := by
  rw [Below.heap_alloc _ _ _ (by simp)]
  have h := heap_alloc_new (w.alloc a) b
  simpa using h
theorem below_3 (w : World) (a b c : Obj) : Below w.heap.size w (((w.alloc a).alloc b).alloc c) := (((Below.refl _ _).alloc (Nat.le_refl _) _).alloc (by simp) _).alloc (by simp; omega) _

/-- A copy under way: the argument in a block of its own, then the answer's block, then the copy's. -/
structure Rec3 (w W : World) (k : Nat) (I O : List Value) : Prop where
  hb : Below w.heap.size w W
  sz : w.heap.size + 3 ≤ W.heap.size
  inp : W.rangeAt w.heap.size 0 I
  z : W.there (w.heap.size + 1) 0 k
  ot : W.there (w.heap.size + 1 + 1) 0 k
  o : W.rangeAt (w.heap.size + 1 + 1) 0 O
theorem Rec3.start {w W : World} {I Z O : Array Value} {t t' : TypeId} (hW : W = ((w.alloc (.cells I t)).alloc (.cells Z t')).alloc (.cells O t')) {k : Nat} (hz : Z.size = k) (ho : O.size = k) : Rec3 w W k I.toList O.toList := by
  have h2 : W.heap[w.heap.size + 1 + 1]? = some (.cells O t' (0, 0)) := by
    rw [hW]
    have h := heap_alloc_new ((w.alloc (.cells I t)).alloc (.cells Z t')) (.cells O t')
    simpa using h
  have h1 : W.heap[w.heap.size + 1]? = some (.cells Z t' (0, 0)) := by
    rw [hW, Below.heap_alloc _ _ _ (by simp)]
    have h := heap_alloc_new (w.alloc (.cells I t)) (.cells Z t')
    simpa using h
  have h0 : W.heap[w.heap.size]? = some (.cells I t (0, 0)) := by
    rw [hW, Below.heap_alloc _ _ _ (by simp; omega), Below.heap_alloc _ _ _ (by simp)]
    exact heap_alloc_new w _
  subst hz
  refine ⟨?_, by rw [hW]; simp, rangeAt_heap h0, there_heap h1, by rw [← ho]; exact there_heap h2, rangeAt_heap h2⟩
  rw [hW]
  exact (((Below.refl _ _).alloc (Nat.le_refl _) _).alloc (by simp) _).alloc (by simp; omega) _
theorem Rec3.call {w W w1 : World} {k : Nat} {I O : List Value} (h : Rec3 w W k I O) (hb : Below W.heap.size W w1) : Rec3 w w1 k I O := by
  obtain ⟨h1, h2, h3, h4, h5, h6⟩ := h
  have := hb.size
  exact ⟨h1.trans (hb.mono h1.size), by omega, rangeAt_same (Same.below hb) (Nat.zero_le _) (by omega) h3, there_kept hb (by omega) h4, there_kept hb (by omega) h5, rangeAt_same (Same.below hb) (Nat.zero_le _) (by omega) h6⟩
theorem setCells_one (w : World) (b o : Nat) (v : Value) : w.setCells b o [v] = w.setCell ⟨b, o, none⟩ v := rfl
theorem Rec3.set {w W : World} {k : Nat} {I O : List Value} (h : Rec3 w W k I O) (i : Nat) (v : Value) (hi : i < k) (hO : O.length = k) : Rec3 w (W.setCell ⟨w.heap.size + 1 + 1, i, none⟩ v) k I (O.set i v) := by
  obtain ⟨h1, h2, h3, h4, h5, h6⟩ := h
  refine ⟨h1.setCell (p := ⟨w.heap.size + 1 + 1, i, none⟩) (by show w.heap.size ≤ w.heap.size + 1 + 1; omega) v, by simpa [World.setCell] using h2, ?_, ?_, ?_, fun j u hu => ?_⟩
  · rw [← setCells_one]; exact World.rangeAt_setCells_apart h3 _ _ _ (.inl (by omega))
  · rw [← setCells_one]; exact World.there_setCells h4 _ _ _
  · rw [← setCells_one]; exact World.there_setCells h5 _ _ _
  · have hj : j < k := by
      have := (List.getElem?_eq_some_iff.1 hu).1
      simpa [hO] using this
    obtain ⟨q, hq⟩ := Option.isSome_iff_exists.1 (h5 i hi).1
    simp only [Nat.zero_add] at hq ⊢
    by_cases e : j = i
    · subst e
      rw [World.cell?_setCell_same _ _ _ hq]
      rw [List.getElem?_set_self (by omega)] at hu
      exact hu
    · rw [World.cell?_setCell_other _ _ _ _ (fun e2 => e (by injection e2 with _ e3; exact e3.symm))]
      rw [List.getElem?_set_ne (fun e2 => e e2.symm)] at hu
      simpa using h6 j u hu
theorem Rec3.cellI {w W : World} {k : Nat} {I O : List Value} (h : Rec3 w W k I O) (i : Nat) (v : Value) (hv : I[i]? = some v) : W.cell? ⟨w.heap.size, i, none⟩ = some v := by simpa using h.inp i v hv
theorem Rec3.cellO {w W : World} {k : Nat} {I O : List Value} (h : Rec3 w W k I O) (i : Nat) (hi : i < k) : (∃ q, W.cell? ⟨w.heap.size + 1 + 1, i, none⟩ = some q) ∧ W.frozen? ⟨w.heap.size + 1 + 1, i, none⟩ = false := by
  have := h.ot i hi
  simp only [Nat.zero_add] at this
  exact ⟨Option.isSome_iff_exists.1 this.1, this.2⟩
theorem same_setCell (w : World) (g i : Nat) (v : Value) {lo hi : Nat} (h : g < lo ∨ hi ≤ g) : Same lo hi w (w.setCell ⟨g, i, none⟩ v) := by
  rw [← setCells_one]; exact Same.setCells w g i [v] h
theorem size_setCell (w : World) (a : Addr) (v : Value) : (w.setCell a v).heap.size = w.heap.size := by simp [World.setCell]

theorem results_cell_mid {fn : Func} {p : Tmp} {ty : TypeId} (h : fn.results = #[.cell p ty]) (tmps : Array Value) (w : World) (g : Nat) (cs : List Value) (d : TypeDesc)
    (hp : tmps.getD p undef = .pointer (some ⟨g, 0, none⟩)) (hc : w.rangeAt g 0 cs)
    (hu : Tryz.prog.underlying ty = some d) (hd : d.isRow = true) (hi : (Tryz.prog.info? ty).map (·.size) = some cs.length) :
    (results fn tmps).run Tryz.prog w = .ok (.agg cs.toArray) w := by
  have hp' : tmps[p]?.getD undef = .pointer (some ⟨g, 0, none⟩) := by simpa using hp
  simp [results, h, hp', asAddr, run_loadVar_mid w g 0 ty cs d hc hu hd hi]

/-! ### How great what is copied may be -/
def InsL.small (x : InsL) : Prop := x.T.size ≤ 1048576 ∧ x.C.size ≤ 1048576 ∧ x.N.size ≤ 1048576 ∧ x.Y.size ≤ 1048576 ∧ x.zs.length ≤ 1048576
def HandL.small (x : HandL) : Prop := x.ty.size ≤ 1048576
def FrameL.small (x : FrameL) : Prop := x.locs.length ≤ 1048576 ∧ x.stk.length ≤ 1048576 ∧ (∀ s ∈ x.locs, s.size ≤ 1048576) ∧ (∀ s ∈ x.stk, s.size ≤ 1048576)
def MethL.small (x : MethL) : Prop := x.name.size ≤ 1048576 ∧ x.sig.size ≤ 1048576 ∧ (x.code.length ≤ 1048576 ∧ ∀ y ∈ x.code, y.small) ∧ (x.hands.length ≤ 1048576 ∧ ∀ y ∈ x.hands, y.small) ∧ (x.frames.length ≤ 1048576 ∧ ∀ y ∈ x.frames, y.small) ∧ x.lines.length ≤ 1048576

set_option maxRecDepth 1000000 in
set_option maxHeartbeats 1000000 in
theorem toHand_calls (x : HandL) (base : Nat) : ElemTo 68 4 HandR base x := by
  intro w row hbase hrx hrl
  have hrow : row = [.int .i64 x.fr, .int .i64 x.to, .int .i64 x.at', .string x.ty] := hrx
  subst hrow
  clear hrx hrl hbase
  go_enter Tryz.func68, Tryz.ntmps68
  go_wp2
  refine bodyPost_ret (v := .agg #[.int .i64 x.fr, .int .i64 x.to, .int .i64 x.at', .string x.ty]) (results_cell_mid rfl _ _ (w.heap.size + 1) [.int .i64 x.fr, .int .i64 x.to, .int .i64 x.at', .string x.ty] _ rfl (rangeAt_heap (heap_mid3 w _ _ _)) Tryz.underlying95 rfl (by kernel_rfl)) rfl ⟨[.int .i64 x.fr, .int .i64 x.to, .int .i64 x.at', .string x.ty], rfl, rfl, rfl, rfl, below_3 w _ _ _⟩

set_option maxRecDepth 1000000 in
set_option maxHeartbeats 1000000 in
theorem toLine_calls (x : LineL) (base : Nat) : ElemTo 70 2 LineR base x := by
  intro w row hbase hrx hrl
  have hrow : row = [.int .i64 x.at', .int .i64 x.n] := hrx
  subst hrow
  clear hrx hrl hbase
  go_enter Tryz.func70, Tryz.ntmps70
  go_wp2
  refine bodyPost_ret (v := .agg #[.int .i64 x.at', .int .i64 x.n]) (results_cell_mid rfl _ _ (w.heap.size + 1) [.int .i64 x.at', .int .i64 x.n] _ rfl (rangeAt_heap (heap_mid3 w _ _ _)) Tryz.underlying99 rfl (by kernel_rfl)) rfl ⟨[.int .i64 x.at', .int .i64 x.n], rfl, rfl, rfl, rfl, below_3 w _ _ _⟩

set_option maxRecDepth 1000000 in
set_option maxHeartbeats 4000000 in
theorem toFrame_calls (x : FrameL) (base : Nat) (hy : x.small) : ElemTo 69 3 FrameR base x := by
  intro w row hbase hrx hrl
  have hinf : Hid ((Tryz.prog.info? 96).map (·.size) = some 3) := by show (Tryz.prog.info? 96).map (·.size) = some 3; kernel_rfl
  obtain ⟨v1, v2, rfl, h1, h2⟩ := hrx
  have c1H : Hid (∀ W, Below w.heap.size w W → Calls Tryz.prog 48 #[v1] W fun e w' => ∃ u, e = .returned u ∧ ListAt StrR 1 true W.heap.size w'.heap.size w' u x.locs ∧ Below W.heap.size W w') := fun W hW => toStrs_calls v1 x.locs W base (Nat.le_trans hbase hW.size) (h1.kept StrR.stable (Nat.le_refl _) (Nat.le_refl _) ((Same.below hW).mono (Nat.zero_le _) hbase)) hy.1
  have c2H : Hid (∀ W, Below w.heap.size w W → Calls Tryz.prog 48 #[v2] W fun e w' => ∃ u, e = .returned u ∧ ListAt StrR 1 true W.heap.size w'.heap.size w' u x.stk ∧ Below W.heap.size W w') := fun W hW => toStrs_calls v2 x.stk W base (Nat.le_trans hbase hW.size) (h2.kept StrR.stable (Nat.le_refl _) (Nat.le_refl _) ((Same.below hW).mono (Nat.zero_le _) hbase)) hy.2.1
  obtain ⟨a1, n1, rfl⟩ := h1.form
  obtain ⟨len1, hlen1⟩ : ∃ n, n = (x.locs).length := ⟨_, rfl⟩
  have hlen1H : Hid (len1 = (x.locs).length) := hlen1
  rw [← hlen1] at c1H ⊢
  obtain ⟨a2, n2, rfl⟩ := h2.form
  obtain ⟨len2, hlen2⟩ : ∃ n, n = (x.stk).length := ⟨_, rfl⟩
  have hlen2H : Hid (len2 = (x.stk).length) := hlen2
  rw [← hlen2] at c2H ⊢
  clear hrl hbase h1 h2 hlen1 hlen2
  go_enter Tryz.func69, Tryz.ntmps69
  go_wp2_with fail
  obtain ⟨W0, hW0⟩ : ∃ W : World, W = ((w.alloc (.cells #[.int .i64 x.at', .slice a1 len1 n1, .slice a2 len2 n2] 89)).alloc (.cells #[.int .i64 0, .slice none 0 0, .slice none 0 0] 96)).alloc (.cells #[.int .i64 x.at', .slice none 0 0, .slice none 0 0] 96) := ⟨_, rfl⟩
  rw [← hW0]
  have r0 : Hid (Rec3 w W0 3 [.int .i64 x.at', .slice a1 len1 n1, .slice a2 len2 n2] [.int .i64 x.at', .slice none 0 0, .slice none 0 0]) := Rec3.start hW0 rfl rfl
  clear hW0
  refine (c1H.out W0 r0.out.hb).mono ?_
  rintro e w1 ⟨u1, rfl, g1, hb1⟩
  obtain ⟨b1, m1, rfl⟩ := g1.form
  rw [← hlen1H.out] at g1 ⊢
  have rc1 : Hid (Rec3 w w1 3 [.int .i64 x.at', .slice a1 len1 n1, .slice a2 len2 n2] [.int .i64 x.at', .slice none 0 0, .slice none 0 0]) := r0.out.call hb1
  have g1H : Hid (ListAt StrR 1 true (w.heap.size + 3) w1.heap.size w1 (.slice b1 len1 m1) x.locs) := g1.kept StrR.stable r0.out.sz (Nat.le_refl _) (Same.refl _ _ _)
  have xi1_2 := rc1.out.cellI 2 _ rfl
  obtain ⟨⟨q1_1, xo1_1⟩, xf1_1⟩ := rc1.out.cellO 1 (by omega)
  clear g1 hb1
  have r1 : Hid (Rec3 w (w1.setCell ⟨w.heap.size + 1 + 1, 1, none⟩ (.slice b1 len1 m1)) 3 [.int .i64 x.at', .slice a1 len1 n1, .slice a2 len2 n2] [.int .i64 x.at', .slice b1 len1 m1, .slice none 0 0]) := (rc1.out.set 1 (.slice b1 len1 m1) (by omega) rfl)
  have g1H : Hid (ListAt StrR 1 true (w.heap.size + 3) (w1.setCell ⟨w.heap.size + 1 + 1, 1, none⟩ (.slice b1 len1 m1)).heap.size (w1.setCell ⟨w.heap.size + 1 + 1, 1, none⟩ (.slice b1 len1 m1)) (.slice b1 len1 m1) x.locs) := g1H.out.kept StrR.stable (Nat.le_refl _) (by simp) (Same.trans (Same.refl _ _ _) (same_setCell _ _ _ _ (.inl (by omega))))
  go_wp2_with fail
  obtain ⟨W1, hW1⟩ : ∃ W : World, W = (w1.setCell ⟨w.heap.size + 1 + 1, 1, none⟩ (.slice b1 len1 m1)) := ⟨_, rfl⟩
  rw [← hW1] at r1 g1H ⊢
  clear hW1 rc1 xi1_2 xo1_1 xf1_1
  refine (c2H.out W1 r1.out.hb).mono ?_
  rintro e w2 ⟨u2, rfl, g2, hb2⟩
  obtain ⟨b2, m2, rfl⟩ := g2.form
  rw [← hlen2H.out] at g2 ⊢
  have rc2 : Hid (Rec3 w w2 3 [.int .i64 x.at', .slice a1 len1 n1, .slice a2 len2 n2] [.int .i64 x.at', .slice b1 len1 m1, .slice none 0 0]) := r1.out.call hb2
  have g2H : Hid (ListAt StrR 1 true (w.heap.size + 3) w2.heap.size w2 (.slice b2 len2 m2) x.stk) := g2.kept StrR.stable r1.out.sz (Nat.le_refl _) (Same.refl _ _ _)
  have g1H : Hid (ListAt StrR 1 true (w.heap.size + 3) w2.heap.size w2 (.slice b1 len1 m1) x.locs) := g1H.out.kept StrR.stable (Nat.le_refl _) hb2.size ((Same.below hb2).mono (Nat.zero_le _) (Nat.le_refl _))
  obtain ⟨⟨q2_2, xo2_2⟩, xf2_2⟩ := rc2.out.cellO 2 (by omega)
  clear g2 hb2
  have r2 : Hid (Rec3 w (w2.setCell ⟨w.heap.size + 1 + 1, 2, none⟩ (.slice b2 len2 m2)) 3 [.int .i64 x.at', .slice a1 len1 n1, .slice a2 len2 n2] [.int .i64 x.at', .slice b1 len1 m1, .slice b2 len2 m2]) := (rc2.out.set 2 (.slice b2 len2 m2) (by omega) rfl)
  have g1H : Hid (ListAt StrR 1 true (w.heap.size + 3) (w2.setCell ⟨w.heap.size + 1 + 1, 2, none⟩ (.slice b2 len2 m2)).heap.size (w2.setCell ⟨w.heap.size + 1 + 1, 2, none⟩ (.slice b2 len2 m2)) (.slice b1 len1 m1) x.locs) := g1H.out.kept StrR.stable (Nat.le_refl _) (by simp) (Same.trans (Same.refl _ _ _) (same_setCell _ _ _ _ (.inl (by omega))))
  have g2H : Hid (ListAt StrR 1 true (w.heap.size + 3) (w2.setCell ⟨w.heap.size + 1 + 1, 2, none⟩ (.slice b2 len2 m2)).heap.size (w2.setCell ⟨w.heap.size + 1 + 1, 2, none⟩ (.slice b2 len2 m2)) (.slice b2 len2 m2) x.stk) := g2H.out.kept StrR.stable (Nat.le_refl _) (by simp) (Same.trans (Same.refl _ _ _) (same_setCell _ _ _ _ (.inl (by omega))))
  go_wp2_with (first | (refine wpList_load_mid rfl 96 _ rfl (w.heap.size + 1 + 1) 0 rfl [.int .i64 x.at', .slice b1 len1 m1, .slice b2 len2 m2] _ r2.out.o Tryz.underlying96 rfl hinf.out ?_) | (refine wpList_store_mid rfl 96 _ _ rfl (w.heap.size + 1) 0 #[.int .i64 x.at', .slice b1 len1 m1, .slice b2 len2 m2] rfl rfl r2.out.z hinf.out (OneCells.all (row := [.int .i64 x.at', .slice b1 len1 m1, .slice b2 len2 m2]) rfl) ?_))
  refine bodyPost_ret (v := .agg #[.int .i64 x.at', .slice b1 len1 m1, .slice b2 len2 m2]) (results_cell_mid rfl _ _ (w.heap.size + 1) [.int .i64 x.at', .slice b1 len1 m1, .slice b2 len2 m2] _ rfl (World.rangeAt_setCells_same _ _ _ _ r2.out.z) Tryz.underlying96 rfl hinf.out) rfl ⟨[.int .i64 x.at', .slice b1 len1 m1, .slice b2 len2 m2], rfl, rfl, rfl, ⟨_, _, rfl, ?_, ?_⟩, below_setCells _ (by omega) _ _ _ r2.out.hb⟩
  · exact g1H.out.kept StrR.stable (by omega) (by rw [size_setCells]; exact Nat.le_refl _) (Same.setCells _ _ _ _ (.inl (by omega)))
  · exact g2H.out.kept StrR.stable (by omega) (by rw [size_setCells]; exact Nat.le_refl _) (Same.setCells _ _ _ _ (.inl (by omega)))

set_option maxRecDepth 1000000 in
set_option maxHeartbeats 4000000 in
theorem toInsL_calls (x : InsL) (base : Nat) (hy : x.small) : ElemTo 67 9 InsR base x := by
  intro w row hbase hrx hrl
  have hinf : Hid ((Tryz.prog.info? 94).map (·.size) = some 9) := by show (Tryz.prog.info? 94).map (·.size) = some 9; kernel_rfl
  obtain ⟨v8, rfl, h8⟩ := hrx
  have c8H : Hid (∀ W, Below w.heap.size w W → Calls Tryz.prog 114 #[v8] W fun e w' => ∃ u, e = .returned u ∧ ListAt IntR 1 true W.heap.size w'.heap.size w' u x.zs ∧ Below W.heap.size W w') := fun W hW => toIntsL_calls v8 x.zs W base (Nat.le_trans hbase hW.size) (h8.kept IntR.stable (Nat.le_refl _) (Nat.le_refl _) ((Same.below hW).mono (Nat.zero_le _) hbase)) hy.2.2.2.2
  obtain ⟨a8, n8, rfl⟩ := h8.form
  obtain ⟨len8, hlen8⟩ : ∃ n, n = (x.zs).length := ⟨_, rfl⟩
  have hlen8H : Hid (len8 = (x.zs).length) := hlen8
  rw [← hlen8] at c8H ⊢
  clear hrl hbase h8 hlen8
  go_enter Tryz.func67, Tryz.ntmps67
  go_wp2_with fail
  obtain ⟨W0, hW0⟩ : ∃ W : World, W = ((w.alloc (.cells #[.int .i64 x.o, .int .i64 x.k, .int .i64 x.a, .int .i64 x.b, .string x.T, .string x.C, .string x.N, .string x.Y, .slice a8 len8 n8] 83)).alloc (.cells #[.int .i64 0, .int .i64 0, .int .i64 0, .int .i64 0, .string ⟨#[]⟩, .string ⟨#[]⟩, .string ⟨#[]⟩, .string ⟨#[]⟩, .slice none 0 0] 94)).alloc (.cells #[.int .i64 x.o, .int .i64 x.k, .int .i64 x.a, .int .i64 x.b, .string x.T, .string x.C, .string x.N, .string x.Y, .slice none 0 0] 94) := ⟨_, rfl⟩
  rw [← hW0]
  have r0 : Hid (Rec3 w W0 9 [.int .i64 x.o, .int .i64 x.k, .int .i64 x.a, .int .i64 x.b, .string x.T, .string x.C, .string x.N, .string x.Y, .slice a8 len8 n8] [.int .i64 x.o, .int .i64 x.k, .int .i64 x.a, .int .i64 x.b, .string x.T, .string x.C, .string x.N, .string x.Y, .slice none 0 0]) := Rec3.start hW0 rfl rfl
  clear hW0
  refine (c8H.out W0 r0.out.hb).mono ?_
  rintro e w1 ⟨u8, rfl, g8, hb1⟩
  obtain ⟨b8, m8, rfl⟩ := g8.form
  rw [← hlen8H.out] at g8 ⊢
  have rc1 : Hid (Rec3 w w1 9 [.int .i64 x.o, .int .i64 x.k, .int .i64 x.a, .int .i64 x.b, .string x.T, .string x.C, .string x.N, .string x.Y, .slice a8 len8 n8] [.int .i64 x.o, .int .i64 x.k, .int .i64 x.a, .int .i64 x.b, .string x.T, .string x.C, .string x.N, .string x.Y, .slice none 0 0]) := r0.out.call hb1
  have g8H : Hid (ListAt IntR 1 true (w.heap.size + 3) w1.heap.size w1 (.slice b8 len8 m8) x.zs) := g8.kept IntR.stable r0.out.sz (Nat.le_refl _) (Same.refl _ _ _)
  obtain ⟨⟨q1_8, xo1_8⟩, xf1_8⟩ := rc1.out.cellO 8 (by omega)
  clear g8 hb1
  have r1 : Hid (Rec3 w (w1.setCell ⟨w.heap.size + 1 + 1, 8, none⟩ (.slice b8 len8 m8)) 9 [.int .i64 x.o, .int .i64 x.k, .int .i64 x.a, .int .i64 x.b, .string x.T, .string x.C, .string x.N, .string x.Y, .slice a8 len8 n8] [.int .i64 x.o, .int .i64 x.k, .int .i64 x.a, .int .i64 x.b, .string x.T, .string x.C, .string x.N, .string x.Y, .slice b8 len8 m8]) := (rc1.out.set 8 (.slice b8 len8 m8) (by omega) rfl)
  have g8H : Hid (ListAt IntR 1 true (w.heap.size + 3) (w1.setCell ⟨w.heap.size + 1 + 1, 8, none⟩ (.slice b8 len8 m8)).heap.size (w1.setCell ⟨w.heap.size + 1 + 1, 8, none⟩ (.slice b8 len8 m8)) (.slice b8 len8 m8) x.zs) := g8H.out.kept IntR.stable (Nat.le_refl _) (by simp) (Same.trans (Same.refl _ _ _) (same_setCell _ _ _ _ (.inl (by omega))))
  go_wp2_with (first | (refine wpList_load_mid rfl 94 _ rfl (w.heap.size + 1 + 1) 0 rfl [.int .i64 x.o, .int .i64 x.k, .int .i64 x.a, .int .i64 x.b, .string x.T, .string x.C, .string x.N, .string x.Y, .slice b8 len8 m8] _ r1.out.o Tryz.underlying94 rfl hinf.out ?_) | (refine wpList_store_mid rfl 94 _ _ rfl (w.heap.size + 1) 0 #[.int .i64 x.o, .int .i64 x.k, .int .i64 x.a, .int .i64 x.b, .string x.T, .string x.C, .string x.N, .string x.Y, .slice b8 len8 m8] rfl rfl r1.out.z hinf.out (OneCells.all (row := [.int .i64 x.o, .int .i64 x.k, .int .i64 x.a, .int .i64 x.b, .string x.T, .string x.C, .string x.N, .string x.Y, .slice b8 len8 m8]) rfl) ?_))
  refine bodyPost_ret (v := .agg #[.int .i64 x.o, .int .i64 x.k, .int .i64 x.a, .int .i64 x.b, .string x.T, .string x.C, .string x.N, .string x.Y, .slice b8 len8 m8]) (results_cell_mid rfl _ _ (w.heap.size + 1) [.int .i64 x.o, .int .i64 x.k, .int .i64 x.a, .int .i64 x.b, .string x.T, .string x.C, .string x.N, .string x.Y, .slice b8 len8 m8] _ rfl (World.rangeAt_setCells_same _ _ _ _ r1.out.z) Tryz.underlying94 rfl hinf.out) rfl ⟨[.int .i64 x.o, .int .i64 x.k, .int .i64 x.a, .int .i64 x.b, .string x.T, .string x.C, .string x.N, .string x.Y, .slice b8 len8 m8], rfl, rfl, rfl, ⟨_, rfl, ?_⟩, below_setCells _ (by omega) _ _ _ r1.out.hb⟩
  · exact g8H.out.kept IntR.stable (by omega) (by rw [size_setCells]; exact Nat.le_refl _) (Same.setCells _ _ _ _ (.inl (by omega)))

set_option maxRecDepth 1000000 in
set_option maxHeartbeats 4000000 in
theorem toMeth_calls (x : MethL) (base : Nat) (hy : x.small) : ElemTo 7 9 MethR base x := by
  intro w row hbase hrx hrl
  have hinf : Hid ((Tryz.prog.info? 35).map (·.size) = some 9) := by show (Tryz.prog.info? 35).map (·.size) = some 9; kernel_rfl
  obtain ⟨v5, v6, v7, v8, rfl, h5, h6, h7, h8⟩ := hrx
  have c5H : Hid (∀ W, Below w.heap.size w W → Calls Tryz.prog 27 #[v5] W fun e w' => ∃ u, e = .returned u ∧ ListAt InsR 9 true W.heap.size w'.heap.size w' u x.code ∧ Below W.heap.size W w') := fun W hW => toInsS_calls v5 x.code W base (Nat.le_trans hbase hW.size) (h5.kept InsR.stable (Nat.le_refl _) (Nat.le_refl _) ((Same.below hW).mono (Nat.zero_le _) hbase)) hy.2.2.1.1 (fun y hy1 => toInsL_calls y base (hy.2.2.1.2 y hy1))
  have c6H : Hid (∀ W, Below w.heap.size w W → Calls Tryz.prog 28 #[v6] W fun e w' => ∃ u, e = .returned u ∧ ListAt HandR 4 true W.heap.size w'.heap.size w' u x.hands ∧ Below W.heap.size W w') := fun W hW => toHandS_calls v6 x.hands W base (Nat.le_trans hbase hW.size) (h6.kept HandR.stable (Nat.le_refl _) (Nat.le_refl _) ((Same.below hW).mono (Nat.zero_le _) hbase)) hy.2.2.2.1.1 (fun y hy1 => toHand_calls y base)
  have c7H : Hid (∀ W, Below w.heap.size w W → Calls Tryz.prog 29 #[v7] W fun e w' => ∃ u, e = .returned u ∧ ListAt FrameR 3 true W.heap.size w'.heap.size w' u x.frames ∧ Below W.heap.size W w') := fun W hW => toFrameS_calls v7 x.frames W base (Nat.le_trans hbase hW.size) (h7.kept FrameR.stable (Nat.le_refl _) (Nat.le_refl _) ((Same.below hW).mono (Nat.zero_le _) hbase)) hy.2.2.2.2.1.1 (fun y hy1 => toFrame_calls y base (hy.2.2.2.2.1.2 y hy1))
  have c8H : Hid (∀ W, Below w.heap.size w W → Calls Tryz.prog 30 #[v8] W fun e w' => ∃ u, e = .returned u ∧ ListAt LineR 2 true W.heap.size w'.heap.size w' u x.lines ∧ Below W.heap.size W w') := fun W hW => toLineS_calls v8 x.lines W base (Nat.le_trans hbase hW.size) (h8.kept LineR.stable (Nat.le_refl _) (Nat.le_refl _) ((Same.below hW).mono (Nat.zero_le _) hbase)) hy.2.2.2.2.2 (fun y hy1 => toLine_calls y base)
  obtain ⟨a5, n5, rfl⟩ := h5.form
  obtain ⟨len5, hlen5⟩ : ∃ n, n = (x.code).length := ⟨_, rfl⟩
  have hlen5H : Hid (len5 = (x.code).length) := hlen5
  rw [← hlen5] at c5H ⊢
  obtain ⟨a6, n6, rfl⟩ := h6.form
  obtain ⟨len6, hlen6⟩ : ∃ n, n = (x.hands).length := ⟨_, rfl⟩
  have hlen6H : Hid (len6 = (x.hands).length) := hlen6
  rw [← hlen6] at c6H ⊢
  obtain ⟨a7, n7, rfl⟩ := h7.form
  obtain ⟨len7, hlen7⟩ : ∃ n, n = (x.frames).length := ⟨_, rfl⟩
  have hlen7H : Hid (len7 = (x.frames).length) := hlen7
  rw [← hlen7] at c7H ⊢
  obtain ⟨a8, n8, rfl⟩ := h8.form
  obtain ⟨len8, hlen8⟩ : ∃ n, n = (x.lines).length := ⟨_, rfl⟩
  have hlen8H : Hid (len8 = (x.lines).length) := hlen8
  rw [← hlen8] at c8H ⊢
  clear hrl hbase h5 h6 h7 h8 hlen5 hlen6 hlen7 hlen8
  go_enter Tryz.func7, Tryz.ntmps7
  go_wp2_with fail
  obtain ⟨W0, hW0⟩ : ∃ W : World, W = ((w.alloc (.cells #[.string x.name, .string x.sig, .int .i64 x.flags, .int .i64 x.stack, .int .i64 x.locals, .slice a5 len5 n5, .slice a6 len6 n6, .slice a7 len7 n7, .slice a8 len8 n8] 27)).alloc (.cells #[.string ⟨#[]⟩, .string ⟨#[]⟩, .int .i64 0, .int .i64 0, .int .i64 0, .slice none 0 0, .slice none 0 0, .slice none 0 0, .slice none 0 0] 35)).alloc (.cells #[.string x.name, .string x.sig, .int .i64 x.flags, .int .i64 x.stack, .int .i64 x.locals, .slice none 0 0, .slice none 0 0, .slice none 0 0, .slice none 0 0] 35) := ⟨_, rfl⟩
  rw [← hW0]
  have r0 : Hid (Rec3 w W0 9 [.string x.name, .string x.sig, .int .i64 x.flags, .int .i64 x.stack, .int .i64 x.locals, .slice a5 len5 n5, .slice a6 len6 n6, .slice a7 len7 n7, .slice a8 len8 n8] [.string x.name, .string x.sig, .int .i64 x.flags, .int .i64 x.stack, .int .i64 x.locals, .slice none 0 0, .slice none 0 0, .slice none 0 0, .slice none 0 0]) := Rec3.start hW0 rfl rfl
  clear hW0
  refine (c5H.out W0 r0.out.hb).mono ?_
  rintro e w1 ⟨u5, rfl, g5, hb1⟩
  obtain ⟨b5, m5, rfl⟩ := g5.form
  rw [← hlen5H.out] at g5 ⊢
  have rc1 : Hid (Rec3 w w1 9 [.string x.name, .string x.sig, .int .i64 x.flags, .int .i64 x.stack, .int .i64 x.locals, .slice a5 len5 n5, .slice a6 len6 n6, .slice a7 len7 n7, .slice a8 len8 n8] [.string x.name, .string x.sig, .int .i64 x.flags, .int .i64 x.stack, .int .i64 x.locals, .slice none 0 0, .slice none 0 0, .slice none 0 0, .slice none 0 0]) := r0.out.call hb1
  have g5H : Hid (ListAt InsR 9 true (w.heap.size + 3) w1.heap.size w1 (.slice b5 len5 m5) x.code) := g5.kept InsR.stable r0.out.sz (Nat.le_refl _) (Same.refl _ _ _)
  have xi1_6 := rc1.out.cellI 6 _ rfl
  obtain ⟨⟨q1_5, xo1_5⟩, xf1_5⟩ := rc1.out.cellO 5 (by omega)
  clear g5 hb1
  have r1 : Hid (Rec3 w (w1.setCell ⟨w.heap.size + 1 + 1, 5, none⟩ (.slice b5 len5 m5)) 9 [.string x.name, .string x.sig, .int .i64 x.flags, .int .i64 x.stack, .int .i64 x.locals, .slice a5 len5 n5, .slice a6 len6 n6, .slice a7 len7 n7, .slice a8 len8 n8] [.string x.name, .string x.sig, .int .i64 x.flags, .int .i64 x.stack, .int .i64 x.locals, .slice b5 len5 m5, .slice none 0 0, .slice none 0 0, .slice none 0 0]) := (rc1.out.set 5 (.slice b5 len5 m5) (by omega) rfl)
  have g5H : Hid (ListAt InsR 9 true (w.heap.size + 3) (w1.setCell ⟨w.heap.size + 1 + 1, 5, none⟩ (.slice b5 len5 m5)).heap.size (w1.setCell ⟨w.heap.size + 1 + 1, 5, none⟩ (.slice b5 len5 m5)) (.slice b5 len5 m5) x.code) := g5H.out.kept InsR.stable (Nat.le_refl _) (by simp) (Same.trans (Same.refl _ _ _) (same_setCell _ _ _ _ (.inl (by omega))))
  go_wp2_with fail
  obtain ⟨W1, hW1⟩ : ∃ W : World, W = (w1.setCell ⟨w.heap.size + 1 + 1, 5, none⟩ (.slice b5 len5 m5)) := ⟨_, rfl⟩
  rw [← hW1] at r1 g5H ⊢
  clear hW1 rc1 xi1_6 xo1_5 xf1_5
  refine (c6H.out W1 r1.out.hb).mono ?_
  rintro e w2 ⟨u6, rfl, g6, hb2⟩
  obtain ⟨b6, m6, rfl⟩ := g6.form
  rw [← hlen6H.out] at g6 ⊢
  have rc2 : Hid (Rec3 w w2 9 [.string x.name, .string x.sig, .int .i64 x.flags, .int .i64 x.stack, .int .i64 x.locals, .slice a5 len5 n5, .slice a6 len6 n6, .slice a7 len7 n7, .slice a8 len8 n8] [.string x.name, .string x.sig, .int .i64 x.flags, .int .i64 x.stack, .int .i64 x.locals, .slice b5 len5 m5, .slice none 0 0, .slice none 0 0, .slice none 0 0]) := r1.out.call hb2
  have g6H : Hid (ListAt HandR 4 true (w.heap.size + 3) w2.heap.size w2 (.slice b6 len6 m6) x.hands) := g6.kept HandR.stable r1.out.sz (Nat.le_refl _) (Same.refl _ _ _)
  have g5H : Hid (ListAt InsR 9 true (w.heap.size + 3) w2.heap.size w2 (.slice b5 len5 m5) x.code) := g5H.out.kept InsR.stable (Nat.le_refl _) hb2.size ((Same.below hb2).mono (Nat.zero_le _) (Nat.le_refl _))
  have xi2_7 := rc2.out.cellI 7 _ rfl
  obtain ⟨⟨q2_6, xo2_6⟩, xf2_6⟩ := rc2.out.cellO 6 (by omega)
  clear g6 hb2
  have r2 : Hid (Rec3 w (w2.setCell ⟨w.heap.size + 1 + 1, 6, none⟩ (.slice b6 len6 m6)) 9 [.string x.name, .string x.sig, .int .i64 x.flags, .int .i64 x.stack, .int .i64 x.locals, .slice a5 len5 n5, .slice a6 len6 n6, .slice a7 len7 n7, .slice a8 len8 n8] [.string x.name, .string x.sig, .int .i64 x.flags, .int .i64 x.stack, .int .i64 x.locals, .slice b5 len5 m5, .slice b6 len6 m6, .slice none 0 0, .slice none 0 0]) := (rc2.out.set 6 (.slice b6 len6 m6) (by omega) rfl)
  have g5H : Hid (ListAt InsR 9 true (w.heap.size + 3) (w2.setCell ⟨w.heap.size + 1 + 1, 6, none⟩ (.slice b6 len6 m6)).heap.size (w2.setCell ⟨w.heap.size + 1 + 1, 6, none⟩ (.slice b6 len6 m6)) (.slice b5 len5 m5) x.code) := g5H.out.kept InsR.stable (Nat.le_refl _) (by simp) (Same.trans (Same.refl _ _ _) (same_setCell _ _ _ _ (.inl (by omega))))
  have g6H : Hid (ListAt HandR 4 true (w.heap.size + 3) (w2.setCell ⟨w.heap.size + 1 + 1, 6, none⟩ (.slice b6 len6 m6)).heap.size (w2.setCell ⟨w.heap.size + 1 + 1, 6, none⟩ (.slice b6 len6 m6)) (.slice b6 len6 m6) x.hands) := g6H.out.kept HandR.stable (Nat.le_refl _) (by simp) (Same.trans (Same.refl _ _ _) (same_setCell _ _ _ _ (.inl (by omega))))
  go_wp2_with fail
  obtain ⟨W2, hW2⟩ : ∃ W : World, W = (w2.setCell ⟨w.heap.size + 1 + 1, 6, none⟩ (.slice b6 len6 m6)) := ⟨_, rfl⟩
  rw [← hW2] at r2 g5H g6H ⊢
  clear hW2 rc2 xi2_7 xo2_6 xf2_6
  refine (c7H.out W2 r2.out.hb).mono ?_
  rintro e w3 ⟨u7, rfl, g7, hb3⟩
  obtain ⟨b7, m7, rfl⟩ := g7.form
  rw [← hlen7H.out] at g7 ⊢
  have rc3 : Hid (Rec3 w w3 9 [.string x.name, .string x.sig, .int .i64 x.flags, .int .i64 x.stack, .int .i64 x.locals, .slice a5 len5 n5, .slice a6 len6 n6, .slice a7 len7 n7, .slice a8 len8 n8] [.string x.name, .string x.sig, .int .i64 x.flags, .int .i64 x.stack, .int .i64 x.locals, .slice b5 len5 m5, .slice b6 len6 m6, .slice none 0 0, .slice none 0 0]) := r2.out.call hb3
  have g7H : Hid (ListAt FrameR 3 true (w.heap.size + 3) w3.heap.size w3 (.slice b7 len7 m7) x.frames) := g7.kept FrameR.stable r2.out.sz (Nat.le_refl _) (Same.refl _ _ _)
  have g5H : Hid (ListAt InsR 9 true (w.heap.size + 3) w3.heap.size w3 (.slice b5 len5 m5) x.code) := g5H.out.kept InsR.stable (Nat.le_refl _) hb3.size ((Same.below hb3).mono (Nat.zero_le _) (Nat.le_refl _))
  have g6H : Hid (ListAt HandR 4 true (w.heap.size + 3) w3.heap.size w3 (.slice b6 len6 m6) x.hands) := g6H.out.kept HandR.stable (Nat.le_refl _) hb3.size ((Same.below hb3).mono (Nat.zero_le _) (Nat.le_refl _))
  have xi3_8 := rc3.out.cellI 8 _ rfl
  obtain ⟨⟨q3_7, xo3_7⟩, xf3_7⟩ := rc3.out.cellO 7 (by omega)
  clear g7 hb3
  have r3 : Hid (Rec3 w (w3.setCell ⟨w.heap.size + 1 + 1, 7, none⟩ (.slice b7 len7 m7)) 9 [.string x.name, .string x.sig, .int .i64 x.flags, .int .i64 x.stack, .int .i64 x.locals, .slice a5 len5 n5, .slice a6 len6 n6, .slice a7 len7 n7, .slice a8 len8 n8] [.string x.name, .string x.sig, .int .i64 x.flags, .int .i64 x.stack, .int .i64 x.locals, .slice b5 len5 m5, .slice b6 len6 m6, .slice b7 len7 m7, .slice none 0 0]) := (rc3.out.set 7 (.slice b7 len7 m7) (by omega) rfl)
  have g5H : Hid (ListAt InsR 9 true (w.heap.size + 3) (w3.setCell ⟨w.heap.size + 1 + 1, 7, none⟩ (.slice b7 len7 m7)).heap.size (w3.setCell ⟨w.heap.size + 1 + 1, 7, none⟩ (.slice b7 len7 m7)) (.slice b5 len5 m5) x.code) := g5H.out.kept InsR.stable (Nat.le_refl _) (by simp) (Same.trans (Same.refl _ _ _) (same_setCell _ _ _ _ (.inl (by omega))))
  have g6H : Hid (ListAt HandR 4 true (w.heap.size + 3) (w3.setCell ⟨w.heap.size + 1 + 1, 7, none⟩ (.slice b7 len7 m7)).heap.size (w3.setCell ⟨w.heap.size + 1 + 1, 7, none⟩ (.slice b7 len7 m7)) (.slice b6 len6 m6) x.hands) := g6H.out.kept HandR.stable (Nat.le_refl _) (by simp) (Same.trans (Same.refl _ _ _) (same_setCell _ _ _ _ (.inl (by omega))))
  have g7H : Hid (ListAt FrameR 3 true (w.heap.size + 3) (w3.setCell ⟨w.heap.size + 1 + 1, 7, none⟩ (.slice b7 len7 m7)).heap.size (w3.setCell ⟨w.heap.size + 1 + 1, 7, none⟩ (.slice b7 len7 m7)) (.slice b7 len7 m7) x.frames) := g7H.out.kept FrameR.stable (Nat.le_refl _) (by simp) (Same.trans (Same.refl _ _ _) (same_setCell _ _ _ _ (.inl (by omega))))
  go_wp2_with fail
  obtain ⟨W3, hW3⟩ : ∃ W : World, W = (w3.setCell ⟨w.heap.size + 1 + 1, 7, none⟩ (.slice b7 len7 m7)) := ⟨_, rfl⟩
  rw [← hW3] at r3 g5H g6H g7H ⊢
  clear hW3 rc3 xi3_8 xo3_7 xf3_7
  refine (c8H.out W3 r3.out.hb).mono ?_
  rintro e w4 ⟨u8, rfl, g8, hb4⟩
  obtain ⟨b8, m8, rfl⟩ := g8.form
  rw [← hlen8H.out] at g8 ⊢
  have rc4 : Hid (Rec3 w w4 9 [.string x.name, .string x.sig, .int .i64 x.flags, .int .i64 x.stack, .int .i64 x.locals, .slice a5 len5 n5, .slice a6 len6 n6, .slice a7 len7 n7, .slice a8 len8 n8] [.string x.name, .string x.sig, .int .i64 x.flags, .int .i64 x.stack, .int .i64 x.locals, .slice b5 len5 m5, .slice b6 len6 m6, .slice b7 len7 m7, .slice none 0 0]) := r3.out.call hb4
  have g8H : Hid (ListAt LineR 2 true (w.heap.size + 3) w4.heap.size w4 (.slice b8 len8 m8) x.lines) := g8.kept LineR.stable r3.out.sz (Nat.le_refl _) (Same.refl _ _ _)
  have g5H : Hid (ListAt InsR 9 true (w.heap.size + 3) w4.heap.size w4 (.slice b5 len5 m5) x.code) := g5H.out.kept InsR.stable (Nat.le_refl _) hb4.size ((Same.below hb4).mono (Nat.zero_le _) (Nat.le_refl _))
  have g6H : Hid (ListAt HandR 4 true (w.heap.size + 3) w4.heap.size w4 (.slice b6 len6 m6) x.hands) := g6H.out.kept HandR.stable (Nat.le_refl _) hb4.size ((Same.below hb4).mono (Nat.zero_le _) (Nat.le_refl _))
  have g7H : Hid (ListAt FrameR 3 true (w.heap.size + 3) w4.heap.size w4 (.slice b7 len7 m7) x.frames) := g7H.out.kept FrameR.stable (Nat.le_refl _) hb4.size ((Same.below hb4).mono (Nat.zero_le _) (Nat.le_refl _))
  obtain ⟨⟨q4_8, xo4_8⟩, xf4_8⟩ := rc4.out.cellO 8 (by omega)
  clear g8 hb4
  have r4 : Hid (Rec3 w (w4.setCell ⟨w.heap.size + 1 + 1, 8, none⟩ (.slice b8 len8 m8)) 9 [.string x.name, .string x.sig, .int .i64 x.flags, .int .i64 x.stack, .int .i64 x.locals, .slice a5 len5 n5, .slice a6 len6 n6, .slice a7 len7 n7, .slice a8 len8 n8] [.string x.name, .string x.sig, .int .i64 x.flags, .int .i64 x.stack, .int .i64 x.locals, .slice b5 len5 m5, .slice b6 len6 m6, .slice b7 len7 m7, .slice b8 len8 m8]) := (rc4.out.set 8 (.slice b8 len8 m8) (by omega) rfl)
  have g5H : Hid (ListAt InsR 9 true (w.heap.size + 3) (w4.setCell ⟨w.heap.size + 1 + 1, 8, none⟩ (.slice b8 len8 m8)).heap.size (w4.setCell ⟨w.heap.size + 1 + 1, 8, none⟩ (.slice b8 len8 m8)) (.slice b5 len5 m5) x.code) := g5H.out.kept InsR.stable (Nat.le_refl _) (by simp) (Same.trans (Same.refl _ _ _) (same_setCell _ _ _ _ (.inl (by omega))))
  have g6H : Hid (ListAt HandR 4 true (w.heap.size + 3) (w4.setCell ⟨w.heap.size + 1 + 1, 8, none⟩ (.slice b8 len8 m8)).heap.size (w4.setCell ⟨w.heap.size + 1 + 1, 8, none⟩ (.slice b8 len8 m8)) (.slice b6 len6 m6) x.hands) := g6H.out.kept HandR.stable (Nat.le_refl _) (by simp) (Same.trans (Same.refl _ _ _) (same_setCell _ _ _ _ (.inl (by omega))))
  have g7H : Hid (ListAt FrameR 3 true (w.heap.size + 3) (w4.setCell ⟨w.heap.size + 1 + 1, 8, none⟩ (.slice b8 len8 m8)).heap.size (w4.setCell ⟨w.heap.size + 1 + 1, 8, none⟩ (.slice b8 len8 m8)) (.slice b7 len7 m7) x.frames) := g7H.out.kept FrameR.stable (Nat.le_refl _) (by simp) (Same.trans (Same.refl _ _ _) (same_setCell _ _ _ _ (.inl (by omega))))
  have g8H : Hid (ListAt LineR 2 true (w.heap.size + 3) (w4.setCell ⟨w.heap.size + 1 + 1, 8, none⟩ (.slice b8 len8 m8)).heap.size (w4.setCell ⟨w.heap.size + 1 + 1, 8, none⟩ (.slice b8 len8 m8)) (.slice b8 len8 m8) x.lines) := g8H.out.kept LineR.stable (Nat.le_refl _) (by simp) (Same.trans (Same.refl _ _ _) (same_setCell _ _ _ _ (.inl (by omega))))
  go_wp2_with (first | (refine wpList_load_mid rfl 35 _ rfl (w.heap.size + 1 + 1) 0 rfl [.string x.name, .string x.sig, .int .i64 x.flags, .int .i64 x.stack, .int .i64 x.locals, .slice b5 len5 m5, .slice b6 len6 m6, .slice b7 len7 m7, .slice b8 len8 m8] _ r4.out.o Tryz.underlying35 rfl hinf.out ?_) | (refine wpList_store_mid rfl 35 _ _ rfl (w.heap.size + 1) 0 #[.string x.name, .string x.sig, .int .i64 x.flags, .int .i64 x.stack, .int .i64 x.locals, .slice b5 len5 m5, .slice b6 len6 m6, .slice b7 len7 m7, .slice b8 len8 m8] rfl rfl r4.out.z hinf.out (OneCells.all (row := [.string x.name, .string x.sig, .int .i64 x.flags, .int .i64 x.stack, .int .i64 x.locals, .slice b5 len5 m5, .slice b6 len6 m6, .slice b7 len7 m7, .slice b8 len8 m8]) rfl) ?_))
  refine bodyPost_ret (v := .agg #[.string x.name, .string x.sig, .int .i64 x.flags, .int .i64 x.stack, .int .i64 x.locals, .slice b5 len5 m5, .slice b6 len6 m6, .slice b7 len7 m7, .slice b8 len8 m8]) (results_cell_mid rfl _ _ (w.heap.size + 1) [.string x.name, .string x.sig, .int .i64 x.flags, .int .i64 x.stack, .int .i64 x.locals, .slice b5 len5 m5, .slice b6 len6 m6, .slice b7 len7 m7, .slice b8 len8 m8] _ rfl (World.rangeAt_setCells_same _ _ _ _ r4.out.z) Tryz.underlying35 rfl hinf.out) rfl ⟨[.string x.name, .string x.sig, .int .i64 x.flags, .int .i64 x.stack, .int .i64 x.locals, .slice b5 len5 m5, .slice b6 len6 m6, .slice b7 len7 m7, .slice b8 len8 m8], rfl, rfl, rfl, ⟨_, _, _, _, rfl, ?_, ?_, ?_, ?_⟩, below_setCells _ (by omega) _ _ _ r4.out.hb⟩
  · exact g5H.out.kept InsR.stable (by omega) (by rw [size_setCells]; exact Nat.le_refl _) (Same.setCells _ _ _ _ (.inl (by omega)))
  · exact g6H.out.kept HandR.stable (by omega) (by rw [size_setCells]; exact Nat.le_refl _) (Same.setCells _ _ _ _ (.inl (by omega)))
  · exact g7H.out.kept FrameR.stable (by omega) (by rw [size_setCells]; exact Nat.le_refl _) (Same.setCells _ _ _ _ (.inl (by omega)))
  · exact g8H.out.kept LineR.stable (by omega) (by rw [size_setCells]; exact Nat.le_refl _) (Same.setCells _ _ _ _ (.inl (by omega)))
end Go.Proofs.YtkkfkbcdcdifdaaGreatDoor
