/- Objects with rows inside that lie apart. -/
import Derived.Test.YtcigiilhlealdaaMaA
import Derived.Test.YtcigiilhlealdaaMrH
namespace Go.Proofs.Ytcigiilhlealdaa
set_option linter.unusedVariables false
open Go.ChangeShapes Go.WideShapes Go.ChangeAt Go.RowKit

structure ObP where
  id : Int
  flds : List Int
  col : Int
/-- A row of objects whose rows of fields lie apart, each in a block of its own. -/
structure ObjX (lo hi : Nat) (w : World) (v : Value) (xs : List ObP) (b c : Nat) (gs : List Value) : Prop where
  form : v = .slice (some ⟨b, 0, none⟩) xs.length c
  bd : lo ≤ b ∧ b < hi ∧ hi ≤ w.heap.size
  room : w.there b 0 (xs.length * 3)
  nb : ∀ (j : Nat) (g : Value), gs[j]? = some g → g.ownBlock ≠ some b
  apart : ∀ (i j : Nat) (g h : Value), gs[i]? = some g → gs[j]? = some h → i ≠ j → ∀ k, g.ownBlock = some k → h.ownBlock ≠ some k
  cells : ∀ j (hj : j < xs.length), ∃ g, gs[j]? = some g ∧ w.rangeAt b (j * 3) [.int .i64 xs[j].id, g, .int .i64 xs[j].col] ∧ IntsAt lo hi w g xs[j].flds
theorem IntsAt.own {lo hi : Nat} {w : World} {v : Value} {zs : List Int} (h : IntsAt lo hi w v zs) : (zs = [] ∧ ∃ a c, v = .slice a 0 c) ∨ ∃ g, v.ownBlock = some g ∧ lo ≤ g ∧ g < hi ∧ IntsAt g (g + 1) w v zs := by
  rcases h with h | ⟨b, c, rfl, h1, h2, h3, h4⟩
  · exact .inl h
  · exact .inr ⟨b, rfl, h1, h2, .inr ⟨b, c, rfl, Nat.le_refl _, Nat.lt_succ_self _, h3, h4⟩⟩
theorem IntsAt.off {lo hi : Nat} {w w' : World} {v : Value} {zs : List Int} (h : IntsAt lo hi w v zs) (hk : ∀ k, v.ownBlock = some k → lo ≤ k → k < hi → Same k (k + 1) w w') : IntsAt lo hi w' v zs := by
  rcases h.own with h | ⟨g, hg, h1, h2, h3⟩
  · exact .inl h
  · exact (h3.kept (hk g hg h1 h2)).mono h1 (by omega)
theorem ObjX.cell {lo hi : Nat} {w : World} {v : Value} {xs : List ObP} {b c : Nat} {gs : List Value} (h : ObjX lo hi w v xs b c gs) {m : Nat} (hm : m < xs.length) (i : Nat) (z : Int) (x : ObP) (hf : x.flds = xs[m].flds) (hi' : (i = 0 ∧ x.id = z ∧ x.col = xs[m].col) ∨ (i = 2 ∧ x.col = z ∧ x.id = xs[m].id)) :
    Touch b (b + 1) w (w.setCell ⟨b, m * 3 + i, none⟩ (.int .i64 z)) ∧ ObjX lo hi (w.setCell ⟨b, m * 3 + i, none⟩ (.int .i64 z)) v (xs.set m x) b c gs := by
  have hl := h.bd
  have hi3 : i < 3 := by omega
  obtain ⟨y, hy⟩ := Option.isSome_iff_exists.1 (h.room (m * 3 + i) (by omega)).1
  rw [Nat.zero_add] at hy
  have hT : Touch b (b + 1) w (w.setCell ⟨b, m * 3 + i, none⟩ (.int .i64 z)) := Touch.setCell w b _ _ (Nat.le_refl _) (by omega) hy
  have hsame : (w.setCell ⟨b, m * 3 + i, none⟩ (.int .i64 z)).cell? ⟨b, m * 3 + i, none⟩ = some (.int .i64 z) := World.cell?_setCell_same _ _ _ hy
  have hoth : ∀ j, j ≠ m * 3 + i → (w.setCell ⟨b, m * 3 + i, none⟩ (.int .i64 z)).cell? ⟨b, j, none⟩ = w.cell? ⟨b, j, none⟩ := fun j hj => World.cell?_setCell_other w _ _ _ (fun e => hj (by injection e with _ e; exact e.symm))
  generalize w.setCell ⟨b, m * 3 + i, none⟩ (.int .i64 z) = W at *
  have s1 := hT.1
  refine ⟨hT, by rw [List.length_set]; exact h.form, by omega, by rw [List.length_set]; exact hT.there (by omega) h.room, h.nb, h.apart, fun j hj => ?_⟩
  have hj2 : j < xs.length := by simpa using hj
  obtain ⟨g, e1, r, q⟩ := h.cells j hj2
  have q2 : IntsAt lo hi W g xs[j].flds := q.off fun k hk k1 k2 p hp1 hp2 => by
    have hkb : k ≠ b := fun e => h.nb j g e1 (by rw [hk, e])
    obtain ⟨x1, x2, x3⟩ := hT.2.2 p (by omega)
    exact ⟨x1 (by omega), x3⟩
  have r2 : ∀ k u, k < 3 → j * 3 + k ≠ m * 3 + i → [Value.int .i64 xs[j].id, g, .int .i64 xs[j].col][k]? = some u → W.cell? ⟨b, j * 3 + k, none⟩ = some u := fun k u _ hn hu => by rw [hoth _ hn]; exact r k u hu
  refine ⟨g, e1, fun k u hu => ?_, ?_⟩
  · by_cases e : j = m
    · subst e
      rw [List.getElem_set_self] at hu
      rcases hi' with ⟨rfl, a1, a2⟩ | ⟨rfl, a1, a2⟩
      · match k, hu with
        | 0, hu => injection hu with hu; rw [← hu, a1]; exact hsame
        | 1, hu => exact r2 1 u (by omega) (by omega) hu
        | 2, hu => rw [a2] at hu; exact r2 2 u (by omega) (by omega) hu
        | n + 3, hu => simp at hu
      · match k, hu with
        | 0, hu => rw [a2] at hu; exact r2 0 u (by omega) (by omega) hu
        | 1, hu => exact r2 1 u (by omega) (by omega) hu
        | 2, hu => injection hu with hu; rw [← hu, a1]; exact hsame
        | n + 3, hu => simp at hu
    · rw [List.getElem_set_ne (fun q => e q.symm)] at hu
      have hk : k < 3 := by
        obtain ⟨hk, _⟩ := List.getElem?_eq_some_iff.1 hu
        simpa using hk
      exact r2 k u hk (by omega) hu
  · by_cases e : j = m
    · subst e
      rw [List.getElem_set_self, hf]
      exact q2
    · rw [List.getElem_set_ne (fun q => e q.symm)]
      exact q2
/-- A row inside, written anew. -/
theorem ObjX.row {lo hi : Nat} {w W : World} {v : Value} {xs : List ObP} {b c : Nat} {gs : List Value} (h : ObjX lo hi w v xs b c gs) {m : Nat} (hm : m < xs.length) {g : Value} (hg : gs[m]? = some g) {g0 : Nat} (hg0 : g.ownBlock = some g0) (zs : List Int)
    (hT : Touch g0 (g0 + 1) w W) (hr : lo ≤ g0 ∧ g0 < hi) (hI : IntsAt g0 (g0 + 1) W g zs) : ObjX lo hi W v (xs.set m { xs[m] with flds := zs }) b c gs := by
  have hl := h.bd
  have s1 := hT.1
  have hgb : g0 ≠ b := fun e => h.nb m g hg (by rw [hg0, e])
  refine ⟨by rw [List.length_set]; exact h.form, by omega, by rw [List.length_set]; exact hT.there (by omega) h.room, h.nb, h.apart, fun j hj => ?_⟩
  have hj2 : j < xs.length := by simpa using hj
  obtain ⟨g', e1, r, q⟩ := h.cells j hj2
  have r2 : W.rangeAt b (j * 3) [.int .i64 xs[j].id, g', .int .i64 xs[j].col] := fun k u hu => by
    obtain ⟨x1, x2, x3⟩ := hT.2.2 ⟨b, j * 3 + k, none⟩ (show b < _ by omega)
    rw [x1 (by show b < g0 ∨ g0 + 1 ≤ b; omega)]
    exact r k u hu
  refine ⟨g', e1, ?_, ?_⟩
  · by_cases e : j = m
    · subst e
      rw [List.getElem_set_self]
      exact r2
    · rw [List.getElem_set_ne (fun q => e q.symm)]
      exact r2
  · by_cases e : j = m
    · subst e
      rw [hg] at e1
      injection e1 with e1
      subst e1
      rw [List.getElem_set_self]
      exact hI.mono hr.1 (by omega)
    · rw [List.getElem_set_ne (fun q => e q.symm)]
      refine q.off fun k hk k1 k2 p hp1 hp2 => ?_
      have hkg : k ≠ g0 := fun e2 => h.apart m j g g' hg e1 (fun q => e q.symm) g0 hg0 (by rw [hk, e2])
      obtain ⟨x1, x2, x3⟩ := hT.2.2 p (by omega)
      exact ⟨x1 (by omega), x3⟩
end Go.Proofs.Ytcigiilhlealdaa

/- Objects marked. -/
namespace Go.Proofs.Ytcigiilhlealdaa
set_option linter.unusedVariables false
open Go.ChangeShapes Go.WideShapes Go.ChangeAt Go.RowKit

/-- Marked: numbers from k on. -/
def markP : Int → List ObP → List ObP
  | _, [] => []
  | k, x :: xs => ⟨k, iota (k + 1) x.flds.length, k + 1 + x.flds.length⟩ :: markP (k + 2 + x.flds.length) xs
def szP : List ObP → Nat
  | [] => 0
  | x :: xs => 2 + x.flds.length + szP xs
theorem markP_length : ∀ (xs : List ObP) (k : Int), (markP k xs).length = xs.length
  | [], _ => rfl
  | x :: xs, k => by simp [markP, markP_length xs]
theorem szP_take : ∀ (xs : List ObP) (m : Nat) (h : m < xs.length), szP (xs.take (m + 1)) = szP (xs.take m) + 2 + xs[m].flds.length
  | x :: xs, 0, _ => by simp [szP]
  | x :: xs, m + 1, h => by
    have := szP_take xs m (by simpa using h)
    simp only [List.take_succ_cons, szP, List.getElem_cons_succ, this]
    omega
  | [], _, h => by simp at h
theorem markP_get : ∀ (xs : List ObP) (k : Int) (m : Nat) (h : m < xs.length), (markP k xs)[m]'(by rw [markP_length]; exact h) = ⟨k + szP (xs.take m), iota (k + szP (xs.take m) + 1) xs[m].flds.length, k + szP (xs.take m) + 1 + xs[m].flds.length⟩
  | x :: xs, k, 0, _ => by simp [markP, szP]
  | x :: xs, k, m + 1, h => by
    have := markP_get xs (k + 2 + x.flds.length) m (by simpa using h)
    simp only [markP, List.getElem_cons_succ, this, List.take_succ_cons, szP]
    have e : k + 2 + (x.flds.length : Int) + (szP (xs.take m) : Int) = k + ((2 + x.flds.length + szP (xs.take m) : Nat) : Int) := by omega
    rw [e]
  | [], _, _, h => by simp at h
theorem szP_le : ∀ (xs : List ObP) (m : Nat), szP (xs.take m) ≤ szP xs
  | [], _ => by simp [szP]
  | x :: xs, 0 => by simp [szP]
  | x :: xs, m + 1 => by have := szP_le xs m; simp only [List.take_succ_cons, szP]; omega
theorem szP_bound : ∀ (xs : List ObP), (∀ x ∈ xs, x.flds.length ≤ 6) → szP xs ≤ xs.length * 8
  | [], _ => by simp [szP]
  | x :: xs, h => by
    have := szP_bound xs (fun y hy => h y (by simp [hy]))
    have := h x (by simp)
    simp only [szP, List.length_cons]
    omega
/-- Marked as far as m. -/
def markPTo (k : Int) (xs : List ObP) (m : Nat) : List ObP := (markP k xs).take m ++ xs.drop m
theorem markPTo_length (k : Int) (xs : List ObP) (m : Nat) (h : m ≤ xs.length) : (markPTo k xs m).length = xs.length := by simp [markPTo, markP_length]; omega
theorem markPTo_get (k : Int) (xs : List ObP) (m : Nat) (h : m < xs.length) : (markPTo k xs m)[m]'(by rw [markPTo_length k xs m (by omega)]; exact h) = xs[m] := by
  unfold markPTo
  rw [List.getElem_append_right (by simp [markP_length]; omega)]
  simp [markP_length]
  congr 1
  omega
theorem markPTo_set (k : Int) (xs : List ObP) (m : Nat) (h : m < xs.length) : (markPTo k xs m).set m ((markP k xs)[m]'(by rw [markP_length]; exact h)) = markPTo k xs (m + 1) := by
  have hl := markP_length xs k
  apply List.ext_getElem?
  intro j
  unfold markPTo
  rw [List.getElem?_set]
  by_cases e : m = j
  · subst e
    rw [if_pos rfl, if_pos (by simp [hl]; omega), List.getElem?_append_left (by simp [hl]; omega), List.getElem?_take_of_lt (by omega), List.getElem?_eq_getElem (by omega)]
  · rw [if_neg e]
    by_cases q : j < m
    · rw [List.getElem?_append_left (by simp [hl]; omega), List.getElem?_append_left (by simp [hl]; omega), List.getElem?_take_of_lt q, List.getElem?_take_of_lt (by omega)]
    · rw [List.getElem?_append_right (by simp [hl]; omega), List.getElem?_append_right (by simp [hl]; omega)]
      simp only [List.length_take, List.getElem?_drop, hl]
      congr 1
      omega
theorem ObjX.kept {lo hi : Nat} {w W : World} {v : Value} {xs : List ObP} {b c : Nat} {gs : List Value} (h : ObjX lo hi w v xs b c gs) (hs : Same lo hi w W) (hz : w.heap.size ≤ W.heap.size) : ObjX lo hi W v xs b c gs := by
  have hl := h.bd
  refine ⟨h.form, by omega, there_same hs hl.1 hl.2.1 h.room, h.nb, h.apart, fun j hj => ?_⟩
  obtain ⟨g, e, r, i⟩ := h.cells j hj
  exact ⟨g, e, rangeAt_same hs hl.1 hl.2.1 r, i.kept hs⟩
/-- One object's row of fields marked, by the contract of marking numbers. -/
theorem ObjX.markRow {lo hi : Nat} {w : World} {v : Value} {xs : List ObP} {b c : Nat} {gs : List Value} (h : ObjX lo hi w v xs b c gs) {m : Nat} (hm : m < xs.length) {g : Value} (hg : gs[m]? = some g) (k : Int) (hk0 : 0 ≤ k) (hk1 : k ≤ 1000000) (hI : IntsAt lo hi w g xs[m].flds) (hl : xs[m].flds.length ≤ 1000) :
    Calls Try.prog 38 #[g, .int .i64 k] w fun e w' => e = .returned (.int .i64 (k + xs[m].flds.length)) ∧ Touch lo hi w w' ∧ ObjX lo hi w' v (xs.set m { xs[m] with flds := iota k xs[m].flds.length }) b c gs ∧ (∀ j, w'.cell? ⟨b, j, none⟩ = w.cell? ⟨b, j, none⟩) := by
  have hbd := h.bd
  rcases hI.own with ⟨he, a, c', hv⟩ | ⟨g0, hg0, g1, g2, hI2⟩
  · refine (markInts_calls g xs[m].flds k w lo lo (by omega) (.inl ⟨he, a, c', hv⟩) hk0 (by omega) (by omega)).mono ?_
    rintro e w' ⟨e1, hT, hI'⟩
    have hs : Same lo hi w w' := hT.same (by omega) (.inr (Nat.le_refl _))
    have hx : xs.set m { xs[m] with flds := iota k xs[m].flds.length } = xs := by
      have : ({ xs[m] with flds := iota k xs[m].flds.length } : ObP) = xs[m] := by
        rw [he]
        show (⟨xs[m].id, [], xs[m].col⟩ : ObP) = xs[m]
        rw [← he]
      rw [this]
      exact List.set_getElem_self hm
    exact ⟨e1, hT.mono (Nat.le_refl _) (by omega), by rw [hx]; exact h.kept hs hT.1, fun j => (hs ⟨b, j, none⟩ hbd.1 hbd.2.1).1⟩
  · refine (markInts_calls g xs[m].flds k w g0 (g0 + 1) (by omega) hI2 hk0 (by omega) (by omega)).mono ?_
    rintro e w' ⟨e1, hT, hI'⟩
    have hgb : g0 ≠ b := fun e => h.nb m g hg (by rw [hg0, e])
    refine ⟨e1, hT.mono g1 (by omega), h.row hm hg hg0 _ hT ⟨g1, g2⟩ hI', fun j => (hT.2.2 ⟨b, j, none⟩ (show b < _ by omega)).1 (by show b < g0 ∨ g0 + 1 ≤ b; omega)⟩
set_option maxRecDepth 100000 in
set_option maxHeartbeats 1000000 in
theorem markObjS_calls (xs : List ObP) (k : Int) (w : World) (lo hi b c : Nat) (gs : List Value) (h : ObjX lo hi w (.slice (some ⟨b, 0, none⟩) xs.length c) xs b c gs) (hk0 : 0 ≤ k) (hk1 : k ≤ 900000) (hn : xs.length ≤ 400) (hg : ∀ x ∈ xs, x.flds.length ≤ 6) :
    Calls Try.prog 43 #[.slice (some ⟨b, 0, none⟩) xs.length c, .int .i64 k] w fun e w' => e = .returned (.int .i64 (k + szP xs)) ∧ Touch lo hi w w' ∧ ObjX lo hi w' (.slice (some ⟨b, 0, none⟩) xs.length c) (markP k xs) b c gs := by
  have hH : Hid (ObjX lo hi w (.slice (some ⟨b, 0, none⟩) xs.length c) (markPTo k xs 0) b c gs) := by simpa [markPTo, Hid] using h
  have hgH : Hid (∀ x ∈ xs, x.flds.length ≤ 6) := hg
  have hsz := szP_bound xs hg
  have hn' : (xs.length : Int) ≤ 400 := by omega
  clear h hg
  go_enter Try.func43, Try.ntmps43
  go_wp2
  go_loopw [1, 5] (fun kv i wr => ∃ m : Nat, m ≤ xs.length ∧ kv = .int .i64 (k + szP (xs.take m)) ∧ i = .int .i64 m ∧ Hid (Touch lo hi w wr) ∧ Hid (ObjX lo hi wr (.slice (some ⟨b, 0, none⟩) xs.length c) (markPTo k xs m) b c gs)) (fun _ i _ => xs.length - (intOf i).toNat)
  case atStart => exact ⟨0, Nat.zero_le _, by simp [szP], rfl, Touch.refl _ _ _, hH⟩
  case round =>
    obtain ⟨m, hm, rfl, rfl, hT, hX⟩ := hrel
    have hm0 : (0 : Int) ≤ m := by omega
    by_cases hlt : m < xs.length
    · have hlt' : (m : Int) < (xs.length : Int) := by omega
      have hml := markPTo_length k xs m (by omega)
      have hst : Hid (szP (xs.take (m + 1)) = szP (xs.take m) + 2 + xs[m].flds.length) := szP_take xs m hlt
      have hle := szP_le xs m
      have hle2 := szP_le xs (m + 1)
      rw [hst.out] at hle2
      have hget := markP_get xs k m hlt
      have hset := markPTo_set k xs m hlt
      rw [hget] at hset
      have hxm := markPTo_get k xs m hlt
      have hbd := hX.out.bd
      obtain ⟨kk, hkk⟩ : ∃ kk, kk = k + (szP (xs.take m) : Int) := ⟨_, rfl⟩
      rw [← hkk] at hset ⊢
      have hkkH : Hid (kk = k + (szP (xs.take m) : Int)) := hkk
      have hkk0 : 0 ≤ kk := by omega
      have hgl := hgH.out _ (List.getElem_mem hlt)
      have hkk1 : kk + 2 + xs[m].flds.length ≤ 910000 := by omega
      -- the first cell
      obtain ⟨t1, x1⟩ := hX.out.cell (m := m) (by omega) 0 kk { xs[m] with id := kk } (by rw [hxm]) (.inl ⟨rfl, rfl, by rw [hxm]⟩)
      have t1 : Touch b (b + 1) wr (wr.setCell ⟨b, m * 3, none⟩ (.int .i64 kk)) := t1
      have x1 : ObjX lo hi (wr.setCell ⟨b, m * 3, none⟩ (.int .i64 kk)) (.slice (some ⟨b, 0, none⟩) xs.length c) ((markPTo k xs m).set m { xs[m] with id := kk }) b c gs := x1
      have hroom := hX.out.room (m * 3) (by omega)
      rw [Nat.zero_add] at hroom
      obtain ⟨y0, p0⟩ := Option.isSome_iff_exists.1 hroom.1
      have f0 := hroom.2
      obtain ⟨W1, eW1⟩ : ∃ W1, W1 = wr.setCell ⟨b, m * 3, none⟩ (.int .i64 kk) := ⟨_, rfl⟩
      rw [← eW1] at t1 x1
      have hT1 : Hid (Touch lo hi w W1) := hT.out.trans (t1.mono (by omega) (by omega))
      -- the row
      have hl1 : ((markPTo k xs m).set m { xs[m] with id := kk }).length = xs.length := by rw [List.length_set]; exact hml
      have e1 : ((markPTo k xs m).set m { xs[m] with id := kk })[m]'(by omega) = { xs[m] with id := kk } := List.getElem_set_self _
      obtain ⟨g, hgm, r, i⟩ := x1.cells m (by omega)
      have hmk := x1.markRow (m := m) (by omega) hgm (kk + 1) (by omega) (by omega) i (by rw [e1]; show xs[m].flds.length ≤ 1000; omega)
      rw [e1] at hmk r i
      rw [List.set_set] at hmk
      have hmkH : Hid (Calls Try.prog 38 #[g, .int .i64 (kk + 1)] W1 fun e w' => e = .returned (.int .i64 (kk + 1 + xs[m].flds.length)) ∧ Touch lo hi W1 w' ∧ ObjX lo hi w' (.slice (some ⟨b, 0, none⟩) xs.length c) ((markPTo k xs m).set m ⟨kk, iota (kk + 1) xs[m].flds.length, xs[m].col⟩) b c gs) := hmk.mono fun e w' q => ⟨q.1, q.2.1, q.2.2.1⟩
      have hp1 : Hid (W1.cell? ⟨b, m * 3 + 1, none⟩ = some g) := r 1 _ rfl
      -- the last cell
      have hfin : Hid (∀ W2 : World, Touch lo hi W1 W2 → ObjX lo hi W2 (.slice (some ⟨b, 0, none⟩) xs.length c) ((markPTo k xs m).set m ⟨kk, iota (kk + 1) xs[m].flds.length, xs[m].col⟩) b c gs → (∃ y2, W2.cell? ⟨b, m * 3 + 2, none⟩ = some y2) ∧ W2.frozen? ⟨b, m * 3 + 2, none⟩ = false ∧ Touch lo hi w (W2.setCell ⟨b, m * 3 + 2, none⟩ (.int .i64 (kk + 1 + xs[m].flds.length))) ∧ ObjX lo hi (W2.setCell ⟨b, m * 3 + 2, none⟩ (.int .i64 (kk + 1 + xs[m].flds.length))) (.slice (some ⟨b, 0, none⟩) xs.length c) (markPTo k xs (m + 1)) b c gs) := fun W2 hT2 hX2 => by
        have hl2 : ((markPTo k xs m).set m ⟨kk, iota (kk + 1) xs[m].flds.length, xs[m].col⟩).length = xs.length := by rw [List.length_set]; exact hml
        have e2 : ((markPTo k xs m).set m ⟨kk, iota (kk + 1) xs[m].flds.length, xs[m].col⟩)[m]'(by omega) = ⟨kk, iota (kk + 1) xs[m].flds.length, xs[m].col⟩ := List.getElem_set_self _
        have hr2 := hX2.room (m * 3 + 2) (by omega)
        rw [Nat.zero_add] at hr2
        obtain ⟨t3, x3⟩ := hX2.cell (m := m) (by omega) 2 (kk + 1 + xs[m].flds.length) ⟨kk, iota (kk + 1) xs[m].flds.length, kk + 1 + xs[m].flds.length⟩ (by rw [e2]) (.inr ⟨rfl, rfl, by rw [e2]⟩)
        rw [List.set_set, hset] at x3
        exact ⟨Option.isSome_iff_exists.1 hr2.1, hr2.2, (hT1.out.trans hT2).trans (t3.mono (by omega) (by omega)), x3⟩
      obtain ⟨ga, gc, hgf⟩ := i.form
      have hgf : g = .slice ga xs[m].flds.length gc := hgf
      subst hgf
      clear r i hroom hbd hX hT hget hset hgm hkk t1 x1 hxm hml hl1 e1 hle hle2 hmk
      generalize xs[m].flds.length = gl at *
      generalize xs[m].col = col at *
      go_upto_region 6 with fail
      rw [← eW1]
      have hp1' := hp1.out
      clear eW1 p0 f0
      go_wp2_with (go_at_call 38; refine (show Calls _ _ _ _ _ from hmkH.out).mono ?_; rintro e w2 ⟨rfl, hT2, hX2⟩; obtain ⟨⟨y2, p2⟩, f2, hT3, hX3⟩ := hfin.out w2 hT2 hX2; have hT3H : Hid _ := hT3; have hX3H : Hid _ := hX3; clear hT2 hX2 hT3 hX3)
      go_roundw
      case rel => exact ⟨m + 1, by omega, by rw [hst.out]; have := hkkH.out; congr 1; omega, by go_num, hT3H, hX3H⟩
      case measure => simp [intOf]; omega
    · have hmE : m = xs.length := by omega
      have hge : ¬ ((m : Int) < (xs.length : Int)) := by omega
      subst hmE
      have hfin : Hid (ObjX lo hi wr (.slice (some ⟨b, 0, none⟩) xs.length c) (markP k xs) b c gs) := by
        have := hX.out
        rw [markPTo, List.take_of_length_le (by rw [markP_length]; exact Nat.le_refl _), List.drop_length, List.append_nil] at this
        exact this
      go_wp2
      go_ret
      exact ⟨by simp, hT.out, hfin.out⟩
end Go.Proofs.Ytcigiilhlealdaa
