/- Two objects of a pair. -/
import Derived.Test.YtjhlbgohpofmnaaAlS
namespace Go.Proofs.Ytjhlbgohpofmnaa
set_option linter.unusedVariables false
open Go.ChangeShapes Go.WideShapes Go.ChangeAt Go.RowKit Go.Maps

theorem there_below' {w w' : World} {g n : Nat} (h : w.there g 0 n) (hb : Below w.heap.size w w') (hg : g < w.heap.size) : w'.there g 0 n := fun j hj => by
  have := h j hj
  rw [hb.cell (p := ⟨g, 0 + j, none⟩) hg, hb.frozen (p := ⟨g, 0 + j, none⟩) hg]
  exact this
def soVal (L : List Value) : Nat → Value → Nat → Nat → World → Prop := fun i v lo hi w =>
  if i < 18 then v = L.getD i undef else if i < 20 then v = .pointer (some ⟨lo, 0, none⟩) ∧ w.there lo 0 3 ∧ lo < hi else True
theorem soVal_below (L : List Value) : ∀ i v lo hi (w w' : World), Below w.heap.size w w' → hi ≤ w.heap.size → soVal L i v lo hi w → soVal L i v lo hi w' := by
  intro i v lo hi w w' hb hh h
  unfold soVal at h ⊢
  by_cases h1 : i < 18
  · rw [if_pos h1] at h ⊢; exact h
  · rw [if_neg h1] at h ⊢
    by_cases h2 : i < 20
    · rw [if_pos h2] at h ⊢; exact ⟨h.1, there_below' h.2.1 hb (by have := h.2.2; omega), h.2.2⟩
    · rw [if_neg h2]; trivial
/-- Behind the first store. -/
def soR (W0 : World) (cs : List Value) (vs : Nat → Value) (W : World) : Prop := ∃ l5 l6 : Nat, Below W0.heap.size W0 W ∧ vs 18 = .pointer (some ⟨l5, 0, none⟩) ∧ vs 19 = .pointer (some ⟨l6, 0, none⟩) ∧ W.rangeAt l5 0 cs ∧ W.there l6 0 3 ∧ l5 ≠ l6 ∧ W0.heap.size ≤ l5 ∧ W0.heap.size ≤ l6 ∧ l5 < W.heap.size ∧ l6 < W.heap.size
theorem soR_loc (W0 : World) (cs : List Value) : ∀ (k : Nat) vs i v w, decide (i < 18) = true → soR W0 cs vs w → soR W0 cs (upd vs i v) w := by
  intro k vs i v w hi h
  have hi : i < 18 := by simpa using hi
  have e : ∀ j, 18 ≤ j → upd vs i v j = vs j := fun j hj => by
    unfold upd
    rw [if_neg]
    intro q; omega
  unfold soR
  rw [e 18 (by omega), e 19 (by omega)]
  exact h
def ObjQ (w : World) (ua ub : Value) (P M1 M2 A B : Nat) (row : List (Int × Int)) (o u : ObjL) (e : Ending) (w' : World) : Prop := if o.ty = u.ty ∧ o.text = u.text then ValsQ w ua ub P M1 M2 A B row o.vals u.vals e w' else e = .returned (.bool false) ∧ Below w.heap.size w w'
theorem str_neB {s t : ByteArray} (h : s ≠ t) : (s.toList == t.toList) = false := by
  have : ¬ s.toList = t.toList := fun e => h (by
    rw [ByteArray.toList_eq, ByteArray.toList_eq] at e
    exact ByteArray.ext (Array.ext' e))
  simpa using this
theorem ValsQ.form {w : World} {ua ub : Value} {P M1 M2 A B : Nat} {row : List (Int × Int)} {vs us : List ValL} {e : Ending} {w' : World} (h : ValsQ w ua ub P M1 M2 A B row vs us e w') : ∃ bb, e = .returned (.bool bb) := by
  unfold ValsQ at h
  split at h
  · unfold MeetQ at h
    split at h
    · exact ⟨_, h.1⟩
    · exact ⟨_, h.1⟩
  · exact ⟨_, h.1⟩
/-- Where an object lies. -/
def ObjsAt (B : Nat) (w : World) (b off m : Nat) (ty tx : ByteArray) (ga : Option Addr) (n c : Nat) : Prop := ∀ W, Below B w W → W.cell? ⟨b, off + m * 3, none⟩ = some (.string ty) ∧ W.cell? ⟨b, off + m * 3 + 1, none⟩ = some (.string tx) ∧ W.cell? ⟨b, off + m * 3 + 2, none⟩ = some (.slice ga n c)

set_option maxRecDepth 1000000 in
set_option maxHeartbeats 8000000 in
theorem sameObjects_calls (m n : Nat) (o u : ObjL) (w wr : World) (ba oa bb ob A B ca cb P M1 M2 : Nat) (rv : Value) (row : List (Int × Int)) (ga gb : Option Addr) (nv nu cv cu : Nat) (hm : m < A) (hn : n < B) (hnv : Hid (nv = o.vals.length)) (hnu : Hid (nu = u.vals.length)) (hvl : nv ≤ 1048576) (hul : nu ≤ 1048576) (hA : A ≤ 1048576) (hB : B ≤ 1048576)
    (hlen : Hid (∀ k row', valsP A B row ((o.vals.zip u.vals).take k) = some row' → row'.length ≤ 1048576)) (hva : Hid (ValsAt w.heap.size w ga o.vals)) (hvb : Hid (ValsAt w.heap.size w gb u.vals)) (hoa : Hid (ObjsAt w.heap.size w ba oa m o.ty o.text ga nv cv)) (hob : Hid (ObjsAt w.heap.size w bb ob n u.ty u.text gb nu cu)) (h : PairW w wr (.slice (some ⟨ba, oa, none⟩) A ca) (.slice (some ⟨bb, ob, none⟩) B cb) P M1 M2 rv row) :
    Calls Try.prog 12 #[.pointer (some ⟨P, 0, none⟩), .agg #[.int .i64 ((m : Int) + 1), .int .i64 ((n : Int) + 1)]] wr fun e w' => ObjQ w (.slice (some ⟨ba, oa, none⟩) A ca) (.slice (some ⟨bb, ob, none⟩) B cb) P M1 M2 A B row o u e w' := by
  obtain ⟨ty1, tx1, vs1⟩ := o
  obtain ⟨ty2, tx2, vs2⟩ := u
  dsimp only at *
  obtain ⟨W0, hW0⟩ : ∃ W0 : World, W0 = wr.alloc (.cells #[.int .i64 ((m : Int) + 1), .int .i64 ((n : Int) + 1)] 48) := ⟨_, rfl⟩
  have hP0 : Hid (PairW w W0 (.slice (some ⟨ba, oa, none⟩) A ca) (.slice (some ⟨bb, ob, none⟩) B cb) P M1 M2 rv row) := by show PairW _ _ _ _ _ _ _ _ _; rw [hW0]; exact h.alloc _
  have e0 : W0.heap[wr.heap.size]? = some (.cells #[.int .i64 ((m : Int) + 1), .int .i64 ((n : Int) + 1)] 48) := by rw [hW0]; exact heap_alloc_new _ _
  have hsz : wr.heap.size < W0.heap.size := by rw [hW0]; simp
  obtain ⟨bx, hbx⟩ : ∃ bx, bx = wr.heap.size := ⟨_, rfl⟩
  have hcell : Hid (∀ W, Below W0.heap.size W0 W → W.cell? ⟨P, 0, none⟩ = some (.slice (some ⟨ba, oa, none⟩) A ca) ∧ W.cell? ⟨P, 1, none⟩ = some (.slice (some ⟨bb, ob, none⟩) B cb) ∧ W.cell? ⟨bx, 0, none⟩ = some (.int .i64 ((m : Int) + 1)) ∧ W.cell? ⟨bx, 1, none⟩ = some (.int .i64 ((n : Int) + 1)) ∧ (W.cell? ⟨ba, oa + m * 3, none⟩ = some (.string ty1) ∧ W.cell? ⟨ba, oa + m * 3 + 1, none⟩ = some (.string tx1) ∧ W.cell? ⟨ba, oa + m * 3 + 2, none⟩ = some (.slice ga nv cv)) ∧ W.cell? ⟨bb, ob + n * 3, none⟩ = some (.string ty2) ∧ W.cell? ⟨bb, ob + n * 3 + 1, none⟩ = some (.string tx2) ∧ W.cell? ⟨bb, ob + n * 3 + 2, none⟩ = some (.slice gb nu cu)) := fun W hW => by
    have hw := (hP0.out.on hW).hb
    refine ⟨(hP0.out.on hW).p0, (hP0.out.on hW).p1, ?_, ?_, hoa.out W hw, hob.out W hw⟩
    · rw [hbx, hW.cell (p := ⟨wr.heap.size, 0, none⟩) hsz]; exact rangeAt_heap e0 0 _ rfl
    · rw [hbx, hW.cell (p := ⟨wr.heap.size, 1, none⟩) hsz]; exact rangeAt_heap e0 1 _ rfl
  clear e0 hsz h
  have hA' : (A : Int) ≤ 1048576 := by omega
  have hB' : (B : Int) ≤ 1048576 := by omega
  have hm' : (m : Int) < A := by omega
  have hn' : (n : Int) < B := by omega
  have hm0 : (0 : Int) ≤ m := by omega
  have hn0 : (0 : Int) ≤ n := by omega
  have hwm : IntKind.i64.wrap (m : Int) = (m : Int) := by rw [IntKind.wrap_i64]; omega
  have hwn : IntKind.i64.wrap (n : Int) = (n : Int) := by rw [IntKind.wrap_i64]; omega
  go_enter Try.func12, Try.ntmps12
  go_wp2_with fail
  rw [← hW0, ← hbx]
  clear hW0 hbx
  refine wp_region_mixed (by kernel_rfl) (fun vs => { tmps := #[.pointer (some ⟨P, 0, none⟩), .agg #[.int .i64 ((m : Int) + 1), .int .i64 ((n : Int) + 1)], undef, .pointer (some ⟨bx, 0, none⟩), .bool false, vs 18, vs 19, vs 0, vs 1, vs 2, vs 3, vs 4, vs 5, vs 6, vs 7, vs 8, vs 9, vs 10, vs 11, vs 12, vs 13, vs 14, vs 15, vs 16, vs 17, undef, undef, undef, undef, undef, undef, undef, undef, undef, undef, undef, undef, undef, undef, undef, undef, undef, undef, undef, undef, undef], defers := [] }) (soVal [.pointer (some ⟨P, 0, none⟩), .pointer (some ⟨P, 0, none⟩), .pointer (some ⟨P, 0, none⟩), .slice (some ⟨ba, oa, none⟩) A ca, .pointer (some ⟨bx, 0, none⟩), .int .i64 ((m : Int) + 1), .int .i64 (m : Int), .pointer (some ⟨ba, oa + m * 3, none⟩), .agg #[.string ty1, .string tx1, .slice ga nv cv], .pointer (some ⟨P, 0, none⟩), .pointer (some ⟨P, 0, none⟩), .pointer (some ⟨P, 1, none⟩), .slice (some ⟨bb, ob, none⟩) B cb, .pointer (some ⟨bx, 1, none⟩), .int .i64 ((n : Int) + 1), .int .i64 (n : Int), .pointer (some ⟨bb, ob + n * 3, none⟩), .agg #[.string ty2, .string tx2, .slice gb nu cu]]) (fun _ => none) (by simp) (by simp) 20 [] (fun i => decide (i < 18)) (fun i v => v = ([.pointer (some ⟨P, 0, none⟩), .pointer (some ⟨P, 0, none⟩), .pointer (some ⟨P, 0, none⟩), .slice (some ⟨ba, oa, none⟩) A ca, .pointer (some ⟨bx, 0, none⟩), .int .i64 ((m : Int) + 1), .int .i64 (m : Int), .pointer (some ⟨ba, oa + m * 3, none⟩), .agg #[.string ty1, .string tx1, .slice ga nv cv], .pointer (some ⟨P, 0, none⟩), .pointer (some ⟨P, 0, none⟩), .pointer (some ⟨P, 1, none⟩), .slice (some ⟨bb, ob, none⟩) B cb, .pointer (some ⟨bx, 1, none⟩), .int .i64 ((n : Int) + 1), .int .i64 (n : Int), .pointer (some ⟨bb, ob + n * 3, none⟩), .agg #[.string ty2, .string tx2, .slice gb nu cu]] : List Value).getD i undef) (fun _ vs W => soR W0 [.string ty1, .string tx1, .slice ga nv cv] vs W) (fun _ => undef) rfl (by kernel_rfl) (soVal_below _) (fun i v lo hi w hp h => by unfold soVal at h; rw [if_pos (by simpa using hp)] at h; exact h) (soR_loc _ _) (allAt_all ⟨?_, ?_, ?_, ?_, ?_, ?_, ?_, ?_, ?_, ?_, ?_, ?_, ?_, ?_, ?_, ?_, ?_, ?_, ?_, ?_, ?_, ?_, trivial⟩) (allAt_all ⟨?_, ?_, ?_, ?_, ?_, ?_, ?_, ?_, ?_, ?_, ?_, ?_, ?_, ?_, ?_, ?_, ?_, ?_, ?_, ?_, ?_, ?_, trivial⟩) ?_ ?_ ?_
  case refine_1 =>
    intro _ _ vs lo hi W hB hv
    clear hv
    go_wp2
    exact RegPost.own (.pointer (some ⟨P, 0, none⟩)) (by rfl) (Below.refl _ _) rfl
  case refine_2 =>
    intro _ _ vs lo hi W hB hv
    have e0 : vs 0 = .pointer (some ⟨P, 0, none⟩) := (hv ⟨0, .data⟩ (by simp) rfl).1
    clear hv
    simp only [e0]
    go_wp2
    exact RegPost.own (.pointer (some ⟨P, 0, none⟩)) (by rw [← e0]; rfl) (Below.refl _ _) rfl
  case refine_3 =>
    intro _ _ vs lo hi W hB hv
    have e1 : vs 1 = .pointer (some ⟨P, 0, none⟩) := (hv ⟨1, .data⟩ (by simp) rfl).1
    clear hv
    simp only [e1]
    go_wp2
    exact RegPost.own (.pointer (some ⟨P, 0, none⟩)) (by rw [← e1]; rfl) (Below.refl _ _) rfl
  case refine_4 =>
    intro _ _ vs lo hi W hB hv
    have e2 : vs 2 = .pointer (some ⟨P, 0, none⟩) := (hv ⟨2, .data⟩ (by simp) rfl).1
    obtain ⟨p0, p1, x0, x1, ⟨a0, a1, a2⟩, b0, b1, b2⟩ := hcell.out W hB
    clear hv
    simp only [e2]
    go_wp2
    exact RegPost.own (.slice (some ⟨ba, oa, none⟩) A ca) (by rw [← e2]; rfl) (Below.refl _ _) rfl
  case refine_5 =>
    intro _ _ vs lo hi W hB hv
    clear hv
    go_wp2
    exact RegPost.own (.pointer (some ⟨bx, 0, none⟩)) (by rfl) (Below.refl _ _) rfl
  case refine_6 =>
    intro _ _ vs lo hi W hB hv
    have e4 : vs 4 = .pointer (some ⟨bx, 0, none⟩) := (hv ⟨4, .data⟩ (by simp) rfl).1
    obtain ⟨p0, p1, x0, x1, ⟨a0, a1, a2⟩, b0, b1, b2⟩ := hcell.out W hB
    clear hv
    simp only [e4]
    go_wp2
    exact RegPost.own (.int .i64 ((m : Int) + 1)) (by rw [← e4]; rfl) (Below.refl _ _) rfl
  case refine_7 =>
    intro _ _ vs lo hi W hB hv
    have e5 : vs 5 = .int .i64 ((m : Int) + 1) := (hv ⟨5, .data⟩ (by simp) rfl).1
    clear hv
    simp only [e5]
    go_wp2
    exact RegPost.own (.int .i64 (m : Int)) (by rw [← e5]; rfl) (Below.refl _ _) rfl
  case refine_8 =>
    intro _ _ vs lo hi W hB hv
    have e3 : vs 3 = .slice (some ⟨ba, oa, none⟩) A ca := (hv ⟨3, .data⟩ (by simp) rfl).1
    have e6 : vs 6 = .int .i64 (m : Int) := (hv ⟨6, .data⟩ (by simp) rfl).1
    clear hv
    simp only [e3, e6]
    go_wp2
    exact RegPost.own (.pointer (some ⟨ba, oa + m * 3, none⟩)) (by rw [← e3, ← e6]; rfl) (Below.refl _ _) rfl
  case refine_9 =>
    intro _ _ vs lo hi W hB hv
    have e7 : vs 7 = .pointer (some ⟨ba, oa + m * 3, none⟩) := (hv ⟨7, .data⟩ (by simp) rfl).1
    obtain ⟨p0, p1, x0, x1, ⟨a0, a1, a2⟩, b0, b1, b2⟩ := hcell.out W hB
    clear hv
    simp only [e7]
    go_wp2
    exact RegPost.own (.agg #[.string ty1, .string tx1, .slice ga nv cv]) (by rw [← e7]; rfl) (Below.refl _ _) rfl
  case refine_10 =>
    intro _ _ vs lo hi W hB hv
    clear hv
    go_wp2
    exact RegPost.own (.pointer (some ⟨P, 0, none⟩)) (by rfl) (Below.refl _ _) rfl
  case refine_11 =>
    intro _ _ vs lo hi W hB hv
    have e9 : vs 9 = .pointer (some ⟨P, 0, none⟩) := (hv ⟨9, .data⟩ (by simp) rfl).1
    clear hv
    simp only [e9]
    go_wp2
    exact RegPost.own (.pointer (some ⟨P, 0, none⟩)) (by rw [← e9]; rfl) (Below.refl _ _) rfl
  case refine_12 =>
    intro _ _ vs lo hi W hB hv
    have e10 : vs 10 = .pointer (some ⟨P, 0, none⟩) := (hv ⟨10, .data⟩ (by simp) rfl).1
    clear hv
    simp only [e10]
    go_wp2
    exact RegPost.own (.pointer (some ⟨P, 1, none⟩)) (by rw [← e10]; rfl) (Below.refl _ _) rfl
  case refine_13 =>
    intro _ _ vs lo hi W hB hv
    have e11 : vs 11 = .pointer (some ⟨P, 1, none⟩) := (hv ⟨11, .data⟩ (by simp) rfl).1
    obtain ⟨p0, p1, x0, x1, ⟨a0, a1, a2⟩, b0, b1, b2⟩ := hcell.out W hB
    clear hv
    simp only [e11]
    go_wp2
    exact RegPost.own (.slice (some ⟨bb, ob, none⟩) B cb) (by rw [← e11]; rfl) (Below.refl _ _) rfl
  case refine_14 =>
    intro _ _ vs lo hi W hB hv
    clear hv
    go_wp2
    exact RegPost.own (.pointer (some ⟨bx, 1, none⟩)) (by rfl) (Below.refl _ _) rfl
  case refine_15 =>
    intro _ _ vs lo hi W hB hv
    have e13 : vs 13 = .pointer (some ⟨bx, 1, none⟩) := (hv ⟨13, .data⟩ (by simp) rfl).1
    obtain ⟨p0, p1, x0, x1, ⟨a0, a1, a2⟩, b0, b1, b2⟩ := hcell.out W hB
    clear hv
    simp only [e13]
    go_wp2
    exact RegPost.own (.int .i64 ((n : Int) + 1)) (by rw [← e13]; rfl) (Below.refl _ _) rfl
  case refine_16 =>
    intro _ _ vs lo hi W hB hv
    have e14 : vs 14 = .int .i64 ((n : Int) + 1) := (hv ⟨14, .data⟩ (by simp) rfl).1
    clear hv
    simp only [e14]
    go_wp2
    exact RegPost.own (.int .i64 (n : Int)) (by rw [← e14]; rfl) (Below.refl _ _) rfl
  case refine_17 =>
    intro _ _ vs lo hi W hB hv
    have e12 : vs 12 = .slice (some ⟨bb, ob, none⟩) B cb := (hv ⟨12, .data⟩ (by simp) rfl).1
    have e15 : vs 15 = .int .i64 (n : Int) := (hv ⟨15, .data⟩ (by simp) rfl).1
    clear hv
    simp only [e12, e15]
    go_wp2
    exact RegPost.own (.pointer (some ⟨bb, ob + n * 3, none⟩)) (by rw [← e12, ← e15]; rfl) (Below.refl _ _) rfl
  case refine_18 =>
    intro _ _ vs lo hi W hB hv
    have e16 : vs 16 = .pointer (some ⟨bb, ob + n * 3, none⟩) := (hv ⟨16, .data⟩ (by simp) rfl).1
    obtain ⟨p0, p1, x0, x1, ⟨a0, a1, a2⟩, b0, b1, b2⟩ := hcell.out W hB
    clear hv
    simp only [e16]
    go_wp2
    exact RegPost.own (.agg #[.string ty2, .string tx2, .slice gb nu cu]) (by rw [← e16]; rfl) (Below.refl _ _) rfl
  case refine_19 =>
    intro _ _ vs lo hi W hB hv
    go_wp2
    exact RegPost.own (.pointer (some ⟨W.heap.size, 0, none⟩)) rfl (below_1 _ _) ⟨rfl, there_heap (heap_alloc_new W _), by simp⟩
  case refine_20 =>
    intro _ _ vs lo hi W hB hv
    go_wp2
    exact RegPost.own (.pointer (some ⟨W.heap.size, 0, none⟩)) rfl (below_1 _ _) ⟨rfl, there_heap (heap_alloc_new W _), by simp⟩
  case refine_21 =>
    exact fun h => absurd (by decide) h
  case refine_22 =>
    exact fun _ h => absurd h (by simp)
  case refine_23 =>
    intro _ _ k vs W hR hv
    clear hv
    go_wp2
    exact PurePost.mk' (.pointer (some ⟨P, 0, none⟩)) (by rfl) rfl
  case refine_24 =>
    intro _ _ k vs W hR hv
    have e0 : vs 0 = .pointer (some ⟨P, 0, none⟩) := hv ⟨0, .data⟩ (by simp) rfl (by decide)
    clear hv
    simp only [e0]
    go_wp2
    exact PurePost.mk' (.pointer (some ⟨P, 0, none⟩)) (by rw [← e0]; rfl) rfl
  case refine_25 =>
    intro _ _ k vs W hR hv
    have e1 : vs 1 = .pointer (some ⟨P, 0, none⟩) := hv ⟨1, .data⟩ (by simp) rfl (by decide)
    clear hv
    simp only [e1]
    go_wp2
    exact PurePost.mk' (.pointer (some ⟨P, 0, none⟩)) (by rw [← e1]; rfl) rfl
  case refine_26 =>
    intro _ _ k vs W hR hv
    obtain ⟨l5, l6, hB, _⟩ := hR
    have e2 : vs 2 = .pointer (some ⟨P, 0, none⟩) := hv ⟨2, .data⟩ (by simp) rfl (by decide)
    obtain ⟨p0, p1, x0, x1, ⟨a0, a1, a2⟩, b0, b1, b2⟩ := hcell.out W hB
    clear hv
    simp only [e2]
    go_wp2
    exact PurePost.mk' (.slice (some ⟨ba, oa, none⟩) A ca) (by rw [← e2]; rfl) rfl
  case refine_27 =>
    intro _ _ k vs W hR hv
    clear hv
    go_wp2
    exact PurePost.mk' (.pointer (some ⟨bx, 0, none⟩)) (by rfl) rfl
  case refine_28 =>
    intro _ _ k vs W hR hv
    obtain ⟨l5, l6, hB, _⟩ := hR
    have e4 : vs 4 = .pointer (some ⟨bx, 0, none⟩) := hv ⟨4, .data⟩ (by simp) rfl (by decide)
    obtain ⟨p0, p1, x0, x1, ⟨a0, a1, a2⟩, b0, b1, b2⟩ := hcell.out W hB
    clear hv
    simp only [e4]
    go_wp2
    exact PurePost.mk' (.int .i64 ((m : Int) + 1)) (by rw [← e4]; rfl) rfl
  case refine_29 =>
    intro _ _ k vs W hR hv
    have e5 : vs 5 = .int .i64 ((m : Int) + 1) := hv ⟨5, .data⟩ (by simp) rfl (by decide)
    clear hv
    simp only [e5]
    go_wp2
    exact PurePost.mk' (.int .i64 (m : Int)) (by rw [← e5]; rfl) rfl
  case refine_30 =>
    intro _ _ k vs W hR hv
    have e3 : vs 3 = .slice (some ⟨ba, oa, none⟩) A ca := hv ⟨3, .data⟩ (by simp) rfl (by decide)
    have e6 : vs 6 = .int .i64 (m : Int) := hv ⟨6, .data⟩ (by simp) rfl (by decide)
    clear hv
    simp only [e3, e6]
    go_wp2
    exact PurePost.mk' (.pointer (some ⟨ba, oa + m * 3, none⟩)) (by rw [← e3, ← e6]; rfl) rfl
  case refine_31 =>
    intro _ _ k vs W hR hv
    obtain ⟨l5, l6, hB, _⟩ := hR
    have e7 : vs 7 = .pointer (some ⟨ba, oa + m * 3, none⟩) := hv ⟨7, .data⟩ (by simp) rfl (by decide)
    obtain ⟨p0, p1, x0, x1, ⟨a0, a1, a2⟩, b0, b1, b2⟩ := hcell.out W hB
    clear hv
    simp only [e7]
    go_wp2
    exact PurePost.mk' (.agg #[.string ty1, .string tx1, .slice ga nv cv]) (by rw [← e7]; rfl) rfl
  case refine_32 =>
    intro _ _ k vs W hR hv
    clear hv
    go_wp2
    exact PurePost.mk' (.pointer (some ⟨P, 0, none⟩)) (by rfl) rfl
  case refine_33 =>
    intro _ _ k vs W hR hv
    have e9 : vs 9 = .pointer (some ⟨P, 0, none⟩) := hv ⟨9, .data⟩ (by simp) rfl (by decide)
    clear hv
    simp only [e9]
    go_wp2
    exact PurePost.mk' (.pointer (some ⟨P, 0, none⟩)) (by rw [← e9]; rfl) rfl
  case refine_34 =>
    intro _ _ k vs W hR hv
    have e10 : vs 10 = .pointer (some ⟨P, 0, none⟩) := hv ⟨10, .data⟩ (by simp) rfl (by decide)
    clear hv
    simp only [e10]
    go_wp2
    exact PurePost.mk' (.pointer (some ⟨P, 1, none⟩)) (by rw [← e10]; rfl) rfl
  case refine_35 =>
    intro _ _ k vs W hR hv
    obtain ⟨l5, l6, hB, _⟩ := hR
    have e11 : vs 11 = .pointer (some ⟨P, 1, none⟩) := hv ⟨11, .data⟩ (by simp) rfl (by decide)
    obtain ⟨p0, p1, x0, x1, ⟨a0, a1, a2⟩, b0, b1, b2⟩ := hcell.out W hB
    clear hv
    simp only [e11]
    go_wp2
    exact PurePost.mk' (.slice (some ⟨bb, ob, none⟩) B cb) (by rw [← e11]; rfl) rfl
  case refine_36 =>
    intro _ _ k vs W hR hv
    clear hv
    go_wp2
    exact PurePost.mk' (.pointer (some ⟨bx, 1, none⟩)) (by rfl) rfl
  case refine_37 =>
    intro _ _ k vs W hR hv
    obtain ⟨l5, l6, hB, _⟩ := hR
    have e13 : vs 13 = .pointer (some ⟨bx, 1, none⟩) := hv ⟨13, .data⟩ (by simp) rfl (by decide)
    obtain ⟨p0, p1, x0, x1, ⟨a0, a1, a2⟩, b0, b1, b2⟩ := hcell.out W hB
    clear hv
    simp only [e13]
    go_wp2
    exact PurePost.mk' (.int .i64 ((n : Int) + 1)) (by rw [← e13]; rfl) rfl
  case refine_38 =>
    intro _ _ k vs W hR hv
    have e14 : vs 14 = .int .i64 ((n : Int) + 1) := hv ⟨14, .data⟩ (by simp) rfl (by decide)
    clear hv
    simp only [e14]
    go_wp2
    exact PurePost.mk' (.int .i64 (n : Int)) (by rw [← e14]; rfl) rfl
  case refine_39 =>
    intro _ _ k vs W hR hv
    have e12 : vs 12 = .slice (some ⟨bb, ob, none⟩) B cb := hv ⟨12, .data⟩ (by simp) rfl (by decide)
    have e15 : vs 15 = .int .i64 (n : Int) := hv ⟨15, .data⟩ (by simp) rfl (by decide)
    clear hv
    simp only [e12, e15]
    go_wp2
    exact PurePost.mk' (.pointer (some ⟨bb, ob + n * 3, none⟩)) (by rw [← e12, ← e15]; rfl) rfl
  case refine_40 =>
    intro _ _ k vs W hR hv
    obtain ⟨l5, l6, hB, _⟩ := hR
    have e16 : vs 16 = .pointer (some ⟨bb, ob + n * 3, none⟩) := hv ⟨16, .data⟩ (by simp) rfl (by decide)
    obtain ⟨p0, p1, x0, x1, ⟨a0, a1, a2⟩, b0, b1, b2⟩ := hcell.out W hB
    clear hv
    simp only [e16]
    go_wp2
    exact PurePost.mk' (.agg #[.string ty2, .string tx2, .slice gb nu cu]) (by rw [← e16]; rfl) rfl
  case refine_41 =>
    exact fun h => absurd h (by decide)
  case refine_42 =>
    exact fun h => absurd h (by decide)
  case refine_43 =>
    exact fun h => absurd h (by decide)
  case refine_44 =>
    exact fun h => absurd h (by decide)
  case refine_45 =>
    intro o ho vs lo hi W hB hv
    obtain rfl := Option.some.inj ho
    obtain ⟨⟨e6, t6, l6⟩, g6, k6, d6⟩ := hv ⟨18, .data⟩ (by simp) rfl
    obtain ⟨⟨e7, t7, l7⟩, g7, k7, _⟩ := hv ⟨19, .phase⟩ (by simp) rfl
    have e2 : vs 8 = .agg #[.string ty1, .string tx1, .slice ga nv cv] := (hv ⟨8, .data⟩ (by simp) rfl).1
    dsimp only at e6 t6 l6 g6 k6 e7 t7 l7 g7 k7
    have hne : lo 18 ≠ lo 19 := by
      rcases d6 ⟨19, .phase⟩ (by simp) rfl (by simp) (by simp) (by simp) with h | h <;> ((try dsimp only at h); omega)
    refine wpList_store_mid rfl 36 _ _ rfl (lo 18) 0 #[.string ty1, .string tx1, .slice ga nv cv] e6 e2 t6 (by kernel_rfl) (all_oneCell_toArray (cs := [.string ty1, .string tx1, .slice ga nv cv]) (by simp [Value.oneCell'])) ?_
    refine wpList_nil ?_
    exact ⟨undef, rfl, lo 18, lo 19, below_setCells _ g6 _ _ _ hB, e6, e7, World.rangeAt_setCells_same W _ _ _ t6, World.there_setCells t7 _ _ _, hne, g6, g7, by rw [size_setCells]; omega, by rw [size_setCells]; omega⟩
  case refine_46 =>
    intro k c o hk
    simp at hk
  case refine_47 =>
    intro o ho vs W hR hv
    obtain rfl := Option.some.inj ho
    obtain ⟨l6, l7, hB, e6, e7, r6, t7, hne, g6, g7, k6, k7⟩ := hR
    have e5 : vs 17 = .agg #[.string ty2, .string tx2, .slice gb nu cu] := hv 17 (by simp) (by decide)
    refine wpList_store_mid rfl 36 _ _ rfl l7 0 #[.string ty2, .string tx2, .slice gb nu cu] e7 e5 t7 (by kernel_rfl) (all_oneCell_toArray (cs := [.string ty2, .string tx2, .slice gb nu cu]) (by simp [Value.oneCell'])) ?_
    refine wpList_nil ?_
    have hB2 := below_setCells l7 g7 [.string ty2, .string tx2, .slice gb nu cu] 0 W hB
    have hP1 : Hid (PairW w (W.setCells l7 0 [.string ty2, .string tx2, .slice gb nu cu]) (.slice (some ⟨ba, oa, none⟩) A ca) (.slice (some ⟨bb, ob, none⟩) B cb) P M1 M2 rv row) := hP0.out.on hB2
    have ra := World.rangeAt_setCells_apart r6 l7 0 [.string ty2, .string tx2, .slice gb nu cu] (.inl hne)
    have rb := World.rangeAt_setCells_same W l7 0 [.string ty2, .string tx2, .slice gb nu cu] t7
    have a0 := ra 0 _ rfl
    have a1 := ra 1 _ rfl
    have a2 := ra 2 _ rfl
    have b0 := rb 0 _ rfl
    have b1 := rb 1 _ rfl
    have b2 := rb 2 _ rfl
    clear r6 t7 hB hv e5 hcell hP0 ra rb hB2 g6 g7 k6 k7 hne hoa hob
    generalize W.setCells l7 0 [.string ty2, .string tx2, .slice gb nu cu] = W1 at *
    simp only [Nat.zero_add] at a0 a1 a2 b0 b1 b2
    simp only [e6, e7]
    clear e6 e7
    have hcall : Hid (Calls Try.prog 17 #[.slice ga nv cv, .slice gb nu cu, .func (.func 18) #[.pointer (some ⟨P, 0, none⟩)] #[]] W1 fun e w' => ValsQ w (.slice (some ⟨ba, oa, none⟩) A ca) (.slice (some ⟨bb, ob, none⟩) B cb) P M1 M2 A B row vs1 vs2 e w') := equalFunc_calls w W1 _ _ A B ca cb P M1 M2 rv row vs1 vs2 ga gb nv nu cv cu hnv hnu hvl hul hA hB hlen hva hvb hP1.out
    by_cases hty : ty1 = ty2
    · subst hty
      by_cases htx : tx1 = tx2
      · subst htx
        have hQ : Hid (∀ e w', ValsQ w (.slice (some ⟨ba, oa, none⟩) A ca) (.slice (some ⟨bb, ob, none⟩) B cb) P M1 M2 A B row vs1 vs2 e w' → ObjQ w (.slice (some ⟨ba, oa, none⟩) A ca) (.slice (some ⟨bb, ob, none⟩) B cb) P M1 M2 A B row ⟨ty1, tx1, vs1⟩ ⟨ty1, tx1, vs2⟩ e w') := fun e w' h => by unfold ObjQ; rw [if_pos ⟨rfl, rfl⟩]; exact h
        go_wp2_with fail
        refine hcall.out.mono ?_
        intro e w2 hq
        obtain ⟨bq, rfl⟩ := hq.form
        have hqH : Hid (ObjQ w (.slice (some ⟨ba, oa, none⟩) A ca) (.slice (some ⟨bb, ob, none⟩) B cb) P M1 M2 A B row ⟨ty1, tx1, vs1⟩ ⟨ty1, tx1, vs2⟩ (.returned (.bool bq)) w2) := hQ.out _ _ hq
        clear hq hcall hQ a0 a1 a2 b0 b1 b2
        go_wp2
        go_ret
        exact hqH.out
      · have hfin : Hid (ObjQ w (.slice (some ⟨ba, oa, none⟩) A ca) (.slice (some ⟨bb, ob, none⟩) B cb) P M1 M2 A B row ⟨ty1, tx1, vs1⟩ ⟨ty1, tx2, vs2⟩ (.returned (.bool false)) W1) := by
          unfold ObjQ; rw [if_neg (fun q => htx q.2)]; exact ⟨rfl, hP1.out.hb⟩
        have htx2 : (tx1.toList == tx2.toList) = false := str_neB htx
        clear hcall
        go_wp2_with fail
        go_ret
        exact hfin.out
    · have hfin : Hid (ObjQ w (.slice (some ⟨ba, oa, none⟩) A ca) (.slice (some ⟨bb, ob, none⟩) B cb) P M1 M2 A B row ⟨ty1, tx1, vs1⟩ ⟨ty2, tx2, vs2⟩ (.returned (.bool false)) W1) := by
        unfold ObjQ; rw [if_neg (fun q => hty q.1)]; exact ⟨rfl, hP1.out.hb⟩
      have hty2 : (ty1.toList == ty2.toList) = false := str_neB hty
      clear hcall
      go_wp2_with fail
      go_ret
      exact hfin.out
end Go.Proofs.Ytjhlbgohpofmnaa
