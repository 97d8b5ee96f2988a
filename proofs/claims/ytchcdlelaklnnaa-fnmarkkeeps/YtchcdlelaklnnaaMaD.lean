/- Objects with rows inside that lie apart. -/
import Derived.Test.YtchcdlelaklnnaaMaA
import Derived.Test.YtchcdlelaklnnaaMrF
namespace Go.Proofs.Ytchcdlelaklnnaa
set_option linter.unusedVariables false
open Go.ChangeShapes Go.WideShapes Go.ChangeAt Go.RowKit

structure ObP where
  id : Int
  flds : List Int
  col : Int
/-- A row of objects whose rows of fields lie apart, each in a block of its own. -/
structure ObjX (lo hi : Nat) (w : World) (v : Value) (xs : List ObP) (b c : Nat) (gs : List Value) : Prop where
  form : v = .slice (some ⟨b, 0, none⟩) xs.length c
  bd : lo ≤ b ∧ b < hi ∧ hi ≤ w.heap.size
  room : w.there b 0 (xs.length * 3)
  nb : ∀ (j : Nat) (g : Value), gs[j]? = some g → g.ownBlock ≠ some b
  apart : ∀ (i j : Nat) (g h : Value), gs[i]? = some g → gs[j]? = some h → i ≠ j → ∀ k, g.ownBlock = some k → h.ownBlock ≠ some k
  cells : ∀ j (hj : j < xs.length), ∃ g, gs[j]? = some g ∧ w.rangeAt b (j * 3) [.int .i64 xs[j].id, g, .int .i64 xs[j].col] ∧ IntsAt lo hi w g xs[j].flds
theorem IntsAt.own {lo hi : Nat} {w : World} {v : Value} {zs : List Int} (h : IntsAt lo hi w v zs) : (zs = [] ∧ ∃ a c, v = .slice a 0 c) ∨ ∃ g, v.ownBlock = some g ∧ lo ≤ g ∧ g < hi ∧ IntsAt g (g + 1) w v zs := by
  rcases h with h | ⟨b, c, rfl, h1, h2, h3, h4⟩
  · exact .inl h
  · exact .inr ⟨b, rfl, h1, h2, .inr ⟨b, c, rfl, Nat.le_refl _, Nat.lt_succ_self _, h3, h4⟩⟩
theorem IntsAt.off {lo hi : Nat} {w w' : World} {v : Value} {zs : List Int} (h : IntsAt lo hi w v zs) (hk : ∀ k, v.ownBlock = some k → lo ≤ k → k < hi → Same k (k + 1) w w') : IntsAt lo hi w' v zs := by
  rcases h.own with h | ⟨g, hg, h1, h2, h3⟩
  · exact .inl h
  · exact (h3.kept (hk g hg h1 h2)).mono h1 (by omega)
theorem ObjX.cell {lo hi : Nat} {w : World} {v : Value} {xs : List ObP} {b c : Nat} {gs : List Value} (h : ObjX lo hi w v xs b c gs) {m : Nat} (hm : m < xs.length) (i : Nat) (z : Int) (x : ObP) (hf : x.flds = xs[m].flds) (hi' : (i = 0 ∧ x.id = z ∧ x.col = xs[m].col) ∨ (i = 2 ∧ x.col = z ∧ x.id = xs[m].id)) :
    Touch b (b + 1) w (w.setCell ⟨b, m * 3 + i, none⟩ (.int .i64 z)) ∧ ObjX lo hi (w.setCell ⟨b, m * 3 + i, none⟩ (.int .i64 z)) v (xs.set m x) b c gs := by
  have hl := h.bd
  have hi3 : i < 3 := by omega
  obtain ⟨y, hy⟩ := Option.isSome_iff_exists.1 (h.room (m * 3 + i) (by omega)).1
  rw [Nat.zero_add] at hy
  have hT : Touch b (b + 1) w (w.setCell ⟨b, m * 3 + i, none⟩ (.int .i64 z)) := Touch.setCell w b _ _ (Nat.le_refl _) (by omega) hy
  have hsame : (w.setCell ⟨b, m * 3 + i, none⟩ (.int .i64 z)).cell? ⟨b, m * 3 + i, none⟩ = some (.int .i64 z) := World.cell?_setCell_same _ _ _ hy
  have hoth : ∀ j, j ≠ m * 3 + i → (w.setCell ⟨b, m * 3 + i, none⟩ (.int .i64 z)).cell? ⟨b, j, none⟩ = w.cell? ⟨b, j, none⟩ := fun j hj => World.cell?_setCell_other w _ _ _ (fun e => hj (by injection e with _ e; exact e.symm))
  generalize w.setCell ⟨b, m * 3 + i, none⟩ (.int .i64 z) = W at *
  have s1 := hT.1
  refine ⟨hT, by rw [List.length_set]; exact h.form, by omega, by rw [List.length_set]; exact hT.there (by omega) h.room, h.nb, h.apart, fun j hj => ?_⟩
  have hj2 : j < xs.length := by simpa using hj
  obtain ⟨g, e1, r, q⟩ := h.cells j hj2
  have q2 : IntsAt lo hi W g xs[j].flds := q.off fun k hk k1 k2 p hp1 hp2 => by
    have hkb : k ≠ b := fun e => h.nb j g e1 (by rw [hk, e])
    obtain ⟨x1, x2, x3⟩ := hT.2.2 p (by omega)
    exact ⟨x1 (by omega), x3⟩
  have r2 : ∀ k u, k < 3 → j * 3 + k ≠ m * 3 + i → [Value.int .i64 xs[j].id, g, .int .i64 xs[j].col][k]? = some u → W.cell? ⟨b, j * 3 + k, none⟩ = some u := fun k u _ hn hu => by rw [hoth _ hn]; exact r k u hu
  refine ⟨g, e1, fun k u hu => ?_, ?_⟩
  · by_cases e : j = m
    · subst e
      rw [List.getElem_set_self] at hu
      rcases hi' with ⟨rfl, a1, a2⟩ | ⟨rfl, a1, a2⟩
      · match k, hu with
        | 0, hu => injection hu with hu; rw [← hu, a1]; exact hsame
        | 1, hu => exact r2 1 u (by omega) (by omega) hu
        | 2, hu => rw [a2] at hu; exact r2 2 u (by omega) (by omega) hu
        | n + 3, hu => simp at hu
      · match k, hu with
        | 0, hu => rw [a2] at hu; exact r2 0 u (by omega) (by omega) hu
        | 1, hu => exact r2 1 u (by omega) (by omega) hu
        | 2, hu => injection hu with hu; rw [← hu, a1]; exact hsame
        | n + 3, hu => simp at hu
    · rw [List.getElem_set_ne (fun q => e q.symm)] at hu
      have hk : k < 3 := by
        obtain ⟨hk, _⟩ := List.getElem?_eq_some_iff.1 hu
        simpa using hk
      exact r2 k u hk (by omega) hu
  · by_cases e : j = m
    · subst e
      rw [List.getElem_set_self, hf]
      exact q2
    · rw [List.getElem_set_ne (fun q => e q.symm)]
      exact q2
/-- A row inside, written anew. -/
theorem ObjX.row {lo hi : Nat} {w W : World} {v : Value} {xs : List ObP} {b c : Nat} {gs : List Value} (h : ObjX lo hi w v xs b c gs) {m : Nat} (hm : m < xs.length) {g : Value} (hg : gs[m]? = some g) {g0 : Nat} (hg0 : g.ownBlock = some g0) (zs : List Int)
    (hT : Touch g0 (g0 + 1) w W) (hr : lo ≤ g0 ∧ g0 < hi) (hI : IntsAt g0 (g0 + 1) W g zs) : ObjX lo hi W v (xs.set m { xs[m] with flds := zs }) b c gs := by
  have hl := h.bd
  have s1 := hT.1
  have hgb : g0 ≠ b := fun e => h.nb m g hg (by rw [hg0, e])
  refine ⟨by rw [List.length_set]; exact h.form, by omega, by rw [List.length_set]; exact hT.there (by omega) h.room, h.nb, h.apart, fun j hj => ?_⟩
  have hj2 : j < xs.length := by simpa using hj
  obtain ⟨g', e1, r, q⟩ := h.cells j hj2
  have r2 : W.rangeAt b (j * 3) [.int .i64 xs[j].id, g', .int .i64 xs[j].col] := fun k u hu => by
    obtain ⟨x1, x2, x3⟩ := hT.2.2 ⟨b, j * 3 + k, none⟩ (show b < _ by omega)
    rw [x1 (by show b < g0 ∨ g0 + 1 ≤ b; omega)]
    exact r k u hu
  refine ⟨g', e1, ?_, ?_⟩
  · by_cases e : j = m
    · subst e
      rw [List.getElem_set_self]
      exact r2
    · rw [List.getElem_set_ne (fun q => e q.symm)]
      exact r2
  · by_cases e : j = m
    · subst e
      rw [hg] at e1
      injection e1 with e1
      subst e1
      rw [List.getElem_set_self]
      exact hI.mono hr.1 (by omega)
    · rw [List.getElem_set_ne (fun q => e q.symm)]
      refine q.off fun k hk k1 k2 p hp1 hp2 => ?_
      have hkg : k ≠ g0 := fun e2 => h.apart m j g g' hg e1 (fun q => e q.symm) g0 hg0 (by rw [hk, e2])
      obtain ⟨x1, x2, x3⟩ := hT.2.2 p (by omega)
      exact ⟨x1 (by omega), x3⟩
end Go.Proofs.Ytchcdlelaklnnaa

/- Objects marked. -/
namespace Go.Proofs.Ytchcdlelaklnnaa
set_option linter.unusedVariables false
open Go.ChangeShapes Go.WideShapes Go.ChangeAt Go.RowKit

/-- Marked: numbers from k on. -/
def markP : Int → List ObP → List ObP
  | _, [] => []
  | k, x :: xs => ⟨k, iota (k + 1) x.flds.length, k + 1 + x.flds.length⟩ :: markP (k + 2 + x.flds.length) xs
def szP : List ObP → Nat
  | [] => 0
  | x :: xs => 2 + x.flds.length + szP xs
theorem markP_length : ∀ (xs : List ObP) (k : Int), (markP k xs).length = xs.length
  | [], _ => rfl
  | x :: xs, k => by simp [markP, markP_length xs]
theorem szP_take : ∀ (xs : List ObP) (m : Nat) (h : m < xs.length), szP (xs.take (m + 1)) = szP (xs.take m) + 2 + xs[m].flds.length
  | x :: xs, 0, _ => by simp [szP]
  | x :: xs, m + 1, h => by
    have := szP_take xs m (by simpa using h)
    simp only [List.take_succ_cons, szP, List.getElem_cons_succ, this]
    omega
  | [], _, h => by simp at h
theorem markP_get : ∀ (xs : List ObP) (k : Int) (m : Nat) (h : m < xs.length), (markP k xs)[m]'(by rw [markP_length]; exact h) = ⟨k + szP (xs.take m), iota (k + szP (xs.take m) + 1) xs[m].flds.length, k + szP (xs.take m) + 1 + xs[m].flds.length⟩
  | x :: xs, k, 0, _ => by simp [markP, szP]
  | x :: xs, k, m + 1, h => by
    have := markP_get xs (k + 2 + x.flds.length) m (by simpa using h)
    simp only [markP, List.getElem_cons_succ, this, List.take_succ_cons, szP]
    have e : k + 2 + (x.flds.length : Int) + (szP (xs.take m) : Int) = k + ((2 + x.flds.length + szP (xs.take m) : Nat) : Int) := by omega
    rw [e]
  | [], _, _, h => by simp at h
theorem szP_le : ∀ (xs : List ObP) (m : Nat), szP (xs.take m) ≤ szP xs
  | [], _ => by simp [szP]
  | x :: xs, 0 => by simp [szP]
  | x :: xs, m + 1 => by have := szP_le xs m; simp only [List.take_succ_cons, szP]; omega
theorem szP_bound : ∀ (xs : List ObP), (∀ x ∈ xs, x.flds.length ≤ 6) → szP xs ≤ xs.length * 8
  | [], _ => by simp [szP]
  | x :: xs, h => by
    have := szP_bound xs (fun y hy => h y (by simp [hy]))
    have := h x (by simp)
    simp only [szP, List.length_cons]
    omega
/-- Marked as far as m. -/
def markPTo (k : Int) (xs : List ObP) (m : Nat) : List ObP := (markP k xs).take m ++ xs.drop m
theorem markPTo_length (k : Int) (xs : List ObP) (m : Nat) (h : m ≤ xs.length) : (markPTo k xs m).length = xs.length := by simp [markPTo, markP_length]; omega
theorem markPTo_get (k : Int) (xs : List ObP) (m : Nat) (h : m < xs.length) : (markPTo k xs m)[m]'(by rw [markPTo_length k xs m (by omega)]; exact h) = xs[m] := by
  unfold markPTo
  rw [List.getElem_append_right (by simp [markP_length]; omega)]
  simp [markP_length]
  congr 1
  omega
theorem markPTo_set (k : Int) (xs : List ObP) (m : Nat) (h : m < xs.length) : (markPTo k xs m).set m ((markP k xs)[m]'(by rw [markP_length]; exact h)) = markPTo k xs (m + 1) := by
  have hl := markP_length xs k
  apply List.ext_getElem?
  intro j
  unfold markPTo
  rw [List.getElem?_set]
  by_cases e : m = j
  · subst e
    rw [if_pos rfl, if_pos (by simp [hl]; omega), List.getElem?_append_left (by simp [hl]; omega), List.getElem?_take_of_lt (by omega), List.getElem?_eq_getElem (by omega)]
  · rw [if_neg e]
    by_cases q : j < m
    · rw [List.getElem?_append_left (by simp [hl]; omega), List.getElem?_append_left (by simp [hl]; omega), List.getElem?_take_of_lt q, List.getElem?_take_of_lt (by omega)]
    · rw [List.getElem?_append_right (by simp [hl]; omega), List.getElem?_append_right (by simp [hl]; omega)]
      simp only [List.length_take, List.getElem?_drop, hl]
      congr 1
      omega
theorem ObjX.kept {lo hi : Nat} {w W : World} {v : Value} {xs : List ObP} {b c : Nat} {gs : List Value} (h : ObjX lo hi w v xs b c gs) (hs : Same lo hi w W) (hz : w.heap.size ≤ W.heap.size) : ObjX lo hi W v xs b c gs := by
  have hl := h.bd
  refine ⟨h.form, by omega, there_same hs hl.1 hl.2.1 h.room, h.nb, h.apart, fun j hj => ?_⟩
  obtain ⟨g, e, r, i⟩ := h.cells j hj
  exact ⟨g, e, rangeAt_same hs hl.1 hl.2.1 r, i.kept hs⟩
end Go.Proofs.Ytchcdlelaklnnaa

/- Objects compared and looked at. -/
namespace Go.Proofs.Ytchcdlelaklnnaa
set_option linter.unusedVariables false
open Go.ChangeShapes Go.WideShapes Go.ChangeAt Go.RowKit

/-- A row of objects, to be read. -/
structure ObjR (lo hi : Nat) (w : World) (v : Value) (xs : List ObP) : Prop where
  form : ∃ a c, v = .slice a xs.length c
  at_ : ∀ j (hj : j < xs.length), ∃ b o c gv, v = .slice (some ⟨b, o, none⟩) xs.length c ∧ lo ≤ b ∧ b < hi ∧ (∀ i u, [Value.int .i64 xs[j].id, gv, .int .i64 xs[j].col][i]? = some u → w.cell? ⟨b, o + j * 3 + i, none⟩ = some u) ∧ IntsAt lo hi w gv xs[j].flds
theorem ObjR.kept {lo hi : Nat} {w w' : World} {v : Value} {xs : List ObP} (h : ObjR lo hi w v xs) (hs : Same lo hi w w') : ObjR lo hi w' v xs := ⟨h.form, fun j hj => by
  obtain ⟨b, o, c, gv, h1, h2, h3, h4, h5⟩ := h.at_ j hj
  exact ⟨b, o, c, gv, h1, h2, h3, fun i u hu => by rw [(hs ⟨b, o + j * 3 + i, none⟩ h2 h3).1]; exact h4 i u hu, h5.kept hs⟩⟩
theorem ObjX.read {lo hi : Nat} {w : World} {v : Value} {xs : List ObP} {b c : Nat} {gs : List Value} (h : ObjX lo hi w v xs b c gs) : ObjR lo hi w v xs := ⟨⟨_, _, h.form⟩, fun j hj => by
  obtain ⟨g, e, r, i⟩ := h.cells j hj
  exact ⟨b, 0, c, g, h.form, h.bd.1, h.bd.2.1, fun k u hu => by rw [Nat.zero_add]; exact r k u hu, i⟩⟩
end Go.Proofs.Ytchcdlelaklnnaa

/- Heaps compared and looked at. -/
namespace Go.Proofs.Ytchcdlelaklnnaa
set_option linter.unusedVariables false
open Go.ChangeShapes Go.WideShapes Go.ChangeAt Go.RowKit

theorem rangeB {W W' : World} {g : Nat} {cs : List Value} (hb : Below W.heap.size W W') (hg : g < W.heap.size) (h : W.rangeAt g 0 cs) : W'.rangeAt g 0 cs := fun j v hj => (hb.cell (p := ⟨g, 0 + j, none⟩) hg).trans (h j v hj)
structure HpR (lo hi : Nat) (w : World) (ov rv qv : Value) (os : List ObP) (rs qs : List Int) : Prop where
  o : ObjR lo hi w ov os
  r : IntsAt lo hi w rv rs
  q : IntsAt lo hi w qv qs
theorem HpR.kept {lo hi : Nat} {w w' : World} {ov rv qv : Value} {os : List ObP} {rs qs : List Int} (h : HpR lo hi w ov rv qv os rs qs) (hs : Same lo hi w w') : HpR lo hi w' ov rv qv os rs qs := ⟨h.o.kept hs, h.r.kept hs, h.q.kept hs⟩
end Go.Proofs.Ytchcdlelaklnnaa

/- A heap marked. -/
namespace Go.Proofs.Ytchcdlelaklnnaa
set_option linter.unusedVariables false
open Go.ChangeShapes Go.WideShapes Go.ChangeAt Go.RowKit

/-- A heap that was given back: objects, roots and row in blocks that lie apart. -/
structure HpX (lo m1 m2 hi : Nat) (w : World) (ov rv qv : Value) (os : List ObP) (rs qs : List Int) (b c : Nat) (gs : List Value) : Prop where
  n : lo ≤ m1 ∧ m1 ≤ m2 ∧ m2 ≤ hi ∧ hi ≤ w.heap.size
  o : ObjX lo m1 w ov os b c gs
  r : IntsAt m1 m2 w rv rs
  q : IntsAt m2 hi w qv qs
theorem HpX.kept {lo m1 m2 hi : Nat} {w w' : World} {ov rv qv : Value} {os : List ObP} {rs qs : List Int} {b c : Nat} {gs : List Value} (h : HpX lo m1 m2 hi w ov rv qv os rs qs b c gs) (hs : Same lo hi w w') (hz : w.heap.size ≤ w'.heap.size) : HpX lo m1 m2 hi w' ov rv qv os rs qs b c gs := by
  have n := h.n
  exact ⟨by omega, h.o.kept (hs.mono (Nat.le_refl _) (by omega)) hz, h.r.kept (hs.mono (by omega) (by omega)), h.q.kept (hs.mono (by omega) (Nat.le_refl _))⟩
theorem ObjR.mono {lo hi lo' hi' : Nat} {w : World} {v : Value} {xs : List ObP} (h : ObjR lo hi w v xs) (h1 : lo' ≤ lo) (h2 : hi ≤ hi') : ObjR lo' hi' w v xs := ⟨h.form, fun j hj => by
  obtain ⟨b, o, c, gv, g1, g2, g3, g4, g5⟩ := h.at_ j hj
  exact ⟨b, o, c, gv, g1, by omega, by omega, g4, g5.mono h1 h2⟩⟩
theorem HpX.read {lo m1 m2 hi : Nat} {w : World} {ov rv qv : Value} {os : List ObP} {rs qs : List Int} {b c : Nat} {gs : List Value} (h : HpX lo m1 m2 hi w ov rv qv os rs qs b c gs) : HpR lo hi w ov rv qv os rs qs := by
  have n := h.n
  exact ⟨h.o.read.mono (Nat.le_refl _) (by omega), h.r.mono (by omega) (by omega), h.q.mono (by omega) (Nat.le_refl _)⟩
theorem rangeT {W W' : World} {a b g : Nat} {cs : List Value} (hT : Touch a b W W') (hg : g < W.heap.size) (hd : g < a ∨ b ≤ g) (h : W.rangeAt g 0 cs) : W'.rangeAt g 0 cs := fun j v hj => ((hT.2.2 ⟨g, 0 + j, none⟩ hg).1 hd).trans (h j v hj)
end Go.Proofs.Ytchcdlelaklnnaa
