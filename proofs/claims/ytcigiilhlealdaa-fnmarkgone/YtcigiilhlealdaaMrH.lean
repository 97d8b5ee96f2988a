/- Answers and ops marked. -/
import Derived.Test.YtcigiilhlealdaaMrG
import Derived.Test.YtcigiilhlealdaaMrA
import Derived.Test.YtcigiilhlealdaaMrF
namespace Go.Proofs.Ytcigiilhlealdaa
set_option linter.unusedVariables false
open Go.ChangeShapes Go.WideShapes Go.ChangeAt Go.RowKit

theorem set3 (w : World) (b o : Nat) (v0 v1 v2 : Value) (ht : w.there b o 3) : ∃ W, W = (((w.setCell ⟨b, o, none⟩ v0).setCell ⟨b, o + 1, none⟩ v1).setCell ⟨b, o + 2, none⟩ v2) ∧
    Touch b (b + 1) w W ∧ (∀ j, j < o ∨ o + 3 ≤ j → W.cell? ⟨b, j, none⟩ = w.cell? ⟨b, j, none⟩) ∧ W.cell? ⟨b, o, none⟩ = some v0 ∧ W.cell? ⟨b, o + 1, none⟩ = some v1 ∧ W.cell? ⟨b, o + 2, none⟩ = some v2 := by
  have hne : ∀ i j, i ≠ j → (⟨b, i, none⟩ : Addr) ≠ ⟨b, j, none⟩ := fun i j h e => h (by injection e)
  obtain ⟨y0, h0⟩ := Option.isSome_iff_exists.1 (ht 0 (by omega)).1
  obtain ⟨y1, h1⟩ := Option.isSome_iff_exists.1 (ht 1 (by omega)).1
  obtain ⟨y2, h2⟩ := Option.isSome_iff_exists.1 (ht 2 (by omega)).1
  have h0 : w.cell? ⟨b, o, none⟩ = some y0 := h0
  clear ht
  have n01 := hne o (o + 1) (by omega)
  have n02 := hne o (o + 2) (by omega)
  have n12 := hne (o + 1) (o + 2) (by omega)
  obtain ⟨W1, e1⟩ : ∃ W1, W1 = w.setCell ⟨b, o, none⟩ v0 := ⟨_, rfl⟩
  have a0 : W1.cell? ⟨b, o, none⟩ = some v0 := by rw [e1]; exact World.cell?_setCell_same _ _ _ h0
  have a1 : W1.cell? ⟨b, o + 1, none⟩ = some y1 := by rw [e1, World.cell?_setCell_other w _ _ v0 n01]; exact h1
  have a2 : W1.cell? ⟨b, o + 2, none⟩ = some y2 := by rw [e1, World.cell?_setCell_other w _ _ v0 n02]; exact h2
  have ao : ∀ j, j < o ∨ o + 3 ≤ j → W1.cell? ⟨b, j, none⟩ = w.cell? ⟨b, j, none⟩ := fun j hj => by rw [e1, World.cell?_setCell_other w _ _ v0 (hne _ _ (by omega))]
  have at_ : Touch b (b + 1) w W1 := by rw [e1]; exact Touch.setCell w b o v0 (Nat.le_refl _) (by omega) h0
  rw [← e1]
  clear e1 h0 h1 h2
  obtain ⟨W2, e2⟩ : ∃ W2, W2 = W1.setCell ⟨b, o + 1, none⟩ v1 := ⟨_, rfl⟩
  have b0 : W2.cell? ⟨b, o, none⟩ = some v0 := by rw [e2, World.cell?_setCell_other W1 _ _ v1 (Ne.symm n01)]; exact a0
  have b1 : W2.cell? ⟨b, o + 1, none⟩ = some v1 := by rw [e2]; exact World.cell?_setCell_same _ _ _ a1
  have b2 : W2.cell? ⟨b, o + 2, none⟩ = some y2 := by rw [e2, World.cell?_setCell_other W1 _ _ v1 n12]; exact a2
  have bo : ∀ j, j < o ∨ o + 3 ≤ j → W2.cell? ⟨b, j, none⟩ = w.cell? ⟨b, j, none⟩ := fun j hj => by rw [e2, World.cell?_setCell_other W1 _ _ v1 (hne _ _ (by omega))]; exact ao j hj
  have bt : Touch b (b + 1) w W2 := at_.trans (by rw [e2]; exact Touch.setCell W1 b (o + 1) v1 (Nat.le_refl _) (by omega) a1)
  rw [← e2]
  clear e2 a0 a1 a2 ao at_
  obtain ⟨W3, e3⟩ : ∃ W3, W3 = W2.setCell ⟨b, o + 2, none⟩ v2 := ⟨_, rfl⟩
  have c0 : W3.cell? ⟨b, o, none⟩ = some v0 := by rw [e3, World.cell?_setCell_other W2 _ _ v2 (Ne.symm n02)]; exact b0
  have c1 : W3.cell? ⟨b, o + 1, none⟩ = some v1 := by rw [e3, World.cell?_setCell_other W2 _ _ v2 (Ne.symm n12)]; exact b1
  have c2 : W3.cell? ⟨b, o + 2, none⟩ = some v2 := by rw [e3]; exact World.cell?_setCell_same _ _ _ b2
  have co : ∀ j, j < o ∨ o + 3 ≤ j → W3.cell? ⟨b, j, none⟩ = w.cell? ⟨b, j, none⟩ := fun j hj => by rw [e3, World.cell?_setCell_other W2 _ _ v2 (hne _ _ (by omega))]; exact bo j hj
  have ct : Touch b (b + 1) w W3 := bt.trans (by rw [e3]; exact Touch.setCell W2 b (o + 2) v2 (Nat.le_refl _) (by omega) b2)
  exact ⟨W3, e3, ct, co, c0, c1, c2⟩
theorem AnsX.marked {lo hi : Nat} {w W W' : World} {v : Value} {ys : List AnsM} {b c : Nat} {cut : Nat → Nat} {gs : List Value} (h : AnsX lo hi w v ys b c cut gs) {m : Nat} (hm : m < ys.length) {g : Value} (hg : gs[m]? = some g) (x : AnsM)
    (hT : Touch b (b + 1) w W) (hc : ∀ j, j < m * 4 ∨ m * 4 + 3 ≤ j → W.cell? ⟨b, j, none⟩ = w.cell? ⟨b, j, none⟩) (hr0 : W.cell? ⟨b, m * 4, none⟩ = some (.int .i64 x.code)) (hr1 : W.cell? ⟨b, m * 4 + 1, none⟩ = some (.int .i64 x.n)) (hr2 : W.cell? ⟨b, m * 4 + 2, none⟩ = some (.int .i64 x.grey))
    (hT2 : Touch (cut m) (cut (m + 1)) W W') (hI : IntsAt (cut m) (cut (m + 1)) W' g x.gone) : AnsX lo hi W' v (ys.set m x) b c cut gs := by
  have hl := h.lo
  have s1 := hT.1
  have s2 := hT2.1
  have c0 := cut_le h.mono (Nat.zero_le m) (Nat.le_of_lt hm)
  have c1 := cut_le h.mono (show m + 1 ≤ ys.length from hm) (Nat.le_refl _)
  have c2 := h.mono m hm
  have hbm : b < cut m := by omega
  have hbw : b < w.heap.size := by omega
  have hbs : b < W.heap.size := by omega
  have hcb : ∀ j, W'.cell? ⟨b, j, none⟩ = W.cell? ⟨b, j, none⟩ := fun j => (hT2.2.2 ⟨b, j, none⟩ hbs).1 (.inl hbm)
  refine ⟨by rw [List.length_set]; exact h.form, by rw [List.length_set]; omega, fun j hj => h.mono j (by simpa using hj), ?_, fun j hj => ?_⟩
  · rw [List.length_set]
    exact hT2.there (by omega) (hT.there (by omega) h.room)
  · have hj2 : j < ys.length := by simpa using hj
    obtain ⟨g', e1, r, i⟩ := h.cells j hj2
    by_cases e : j = m
    · subst e
      rw [hg] at e1
      injection e1 with e1
      subst e1
      refine ⟨g, hg, ?_, by rw [List.getElem_set_self]; exact hI⟩
      rw [List.getElem_set_self]
      intro k u hu
      rw [hcb]
      match k, hu with
      | 0, hu => injection hu with hu; rw [← hu]; exact hr0
      | 1, hu => injection hu with hu; rw [← hu]; exact hr1
      | 2, hu => injection hu with hu; rw [← hu]; exact hr2
      | 3, hu => rw [hc _ (.inr (by omega))]; exact r 3 u hu
      | n + 4, hu => simp at hu
    · refine ⟨g', e1, ?_, ?_⟩
      · rw [List.getElem_set_ne (fun q => e q.symm)]
        intro k u hu
        have hk : k < 4 := by
          have := List.getElem?_eq_some_iff.1 hu
          obtain ⟨hk, _⟩ := this
          simpa using hk
        rw [hcb, hc _ (by omega)]
        exact r k u hu
      · rw [List.getElem_set_ne (fun q => e q.symm)]
        have d0 := cut_le h.mono (Nat.zero_le j) (Nat.le_of_lt hj2)
        have d1 := cut_le h.mono (show j + 1 ≤ ys.length from hj2) (Nat.le_refl _)
        refine (i.kept (hT.same (by omega) (.inr (by omega)))).kept (hT2.same (by omega) ?_)
        by_cases q : j < m
        · exact .inl (cut_le h.mono (show j + 1 ≤ m from q) (by omega))
        · exact .inr (cut_le h.mono (show m + 1 ≤ j by omega) (by omega))
/-- Marked as far as m. -/
def markTo (k : Int) (xs : List AnsM) (m : Nat) : List AnsM := (markA k xs).take m ++ xs.drop m
theorem markTo_length (k : Int) (xs : List AnsM) (m : Nat) (h : m ≤ xs.length) : (markTo k xs m).length = xs.length := by simp [markTo, markA_length]; omega
theorem markTo_get (k : Int) (xs : List AnsM) (m : Nat) (h : m < xs.length) : (markTo k xs m)[m]'(by rw [markTo_length k xs m (by omega)]; exact h) = xs[m] := by
  unfold markTo
  rw [List.getElem_append_right (by simp [markA_length]; omega)]
  simp [markA_length]
  congr 1
  omega
theorem markTo_set (k : Int) (xs : List AnsM) (m : Nat) (h : m < xs.length) : (markTo k xs m).set m ((markA k xs)[m]'(by rw [markA_length]; exact h)) = markTo k xs (m + 1) := by
  have hl := markA_length xs k
  apply List.ext_getElem?
  intro j
  unfold markTo
  rw [List.getElem?_set]
  by_cases e : m = j
  · subst e
    rw [if_pos rfl, if_pos (by simp [hl]; omega), List.getElem?_append_left (by simp [hl]; omega), List.getElem?_take_of_lt (by omega), List.getElem?_eq_getElem (by omega)]
  · rw [if_neg e]
    by_cases q : j < m
    · rw [List.getElem?_append_left (by simp [hl]; omega), List.getElem?_append_left (by simp [hl]; omega), List.getElem?_take_of_lt q, List.getElem?_take_of_lt (by omega)]
    · rw [List.getElem?_append_right (by simp [hl]; omega), List.getElem?_append_right (by simp [hl]; omega)]
      simp only [List.length_take, List.getElem?_drop, hl]
      congr 1
      omega
set_option maxRecDepth 100000 in
set_option maxHeartbeats 1000000 in
theorem markObsS_calls (xs : List AnsM) (k : Int) (w : World) (lo hi b c : Nat) (cut : Nat → Nat) (gs : List Value) (h : AnsX lo hi w (.slice (some ⟨b, 0, none⟩) xs.length c) xs b c cut gs) (hk0 : 0 ≤ k) (hk1 : k ≤ 1000000) (hn : xs.length ≤ 500) (hg : ∀ x ∈ xs, x.gone.length ≤ 400) :
    Calls Try.prog 18 #[.slice (some ⟨b, 0, none⟩) xs.length c, .int .i64 k] w fun e w' => e = .returned (.int .i64 (k + szA xs)) ∧ Touch lo hi w w' ∧ AnsX lo hi w' (.slice (some ⟨b, 0, none⟩) xs.length c) (markA k xs) b c cut gs := by
  have hH : Hid (AnsX lo hi w (.slice (some ⟨b, 0, none⟩) xs.length c) (markTo k xs 0) b c cut gs) := by simpa [markTo, Hid] using h
  have hgH : Hid (∀ x ∈ xs, x.gone.length ≤ 400) := hg
  have hsz := szA_bound xs hg
  have hn' : (xs.length : Int) ≤ 500 := by omega
  clear h hg
  go_enter Try.func18, Try.ntmps18
  go_wp2
  go_loopw [1, 5] (fun kv i wr => ∃ m : Nat, m ≤ xs.length ∧ kv = .int .i64 (k + szA (xs.take m)) ∧ i = .int .i64 m ∧ Hid (Touch lo hi w wr) ∧ Hid (AnsX lo hi wr (.slice (some ⟨b, 0, none⟩) xs.length c) (markTo k xs m) b c cut gs)) (fun _ i _ => xs.length - (intOf i).toNat)
  case atStart => exact ⟨0, Nat.zero_le _, by simp [szA], rfl, Touch.refl _ _ _, hH⟩
  case round =>
    obtain ⟨m, hm, rfl, rfl, hT, hX⟩ := hrel
    have hm0 : (0 : Int) ≤ m := by omega
    by_cases hlt : m < xs.length
    · have hlt' : (m : Int) < (xs.length : Int) := by omega
      have hml := markTo_length k xs m (by omega)
      obtain ⟨g, hgm, r, i⟩ := hX.out.cells m (by omega)
      rw [markTo_get k xs m hlt] at r i
      have hlo := hX.out.lo
      have c0 := cut_le hX.out.mono (Nat.zero_le m) (by omega)
      have c1 := cut_le hX.out.mono (show m + 1 ≤ _ by omega) (Nat.le_refl _)
      have hroom : wr.there b (m * 4) 3 := fun j hj => by
        have := hX.out.room (m * 4 + j) (by omega)
        rwa [Nat.zero_add] at this
      have hgl := hgH.out _ (List.getElem_mem hlt)
      have hst : Hid (szA (xs.take (m + 1)) = szA (xs.take m) + 3 + xs[m].gone.length) := szA_take xs m hlt
      have hle := szA_le xs m
      have hle2 := szA_le xs (m + 1)
      rw [hst.out] at hle2
      have hget := markA_get xs k m hlt
      have hset := markTo_set k xs m hlt
      rw [hget] at hset
      obtain ⟨kk, hkk⟩ : ∃ kk, kk = k + (szA (xs.take m) : Int) := ⟨_, rfl⟩
      rw [← hkk] at hset ⊢
      have hkkH : Hid (kk = k + (szA (xs.take m) : Int)) := hkk
      have hkk0 : 0 ≤ kk := by omega
      have hkk1 : kk + 3 + xs[m].gone.length ≤ 1500000 := by omega
      obtain ⟨W3, eW3, t1, t2, t3, t4, t5⟩ := set3 wr b (m * 4) (.int .i64 kk) (.int .i64 (kk + 1)) (.int .i64 (kk + 1 + 1)) hroom
      obtain ⟨y0, p0⟩ := Option.isSome_iff_exists.1 (hroom 0 (by omega)).1
      obtain ⟨y1, p1⟩ := Option.isSome_iff_exists.1 (hroom 1 (by omega)).1
      obtain ⟨y2, p2⟩ := Option.isSome_iff_exists.1 (hroom 2 (by omega)).1
      have f0 := (hroom 0 (by omega)).2
      have f1 := (hroom 1 (by omega)).2
      have f2 := (hroom 2 (by omega)).2
      rw [Nat.add_zero] at p0 f0
      have p3 := r 3 _ rfl
      have hp3 : Hid (W3.cell? ⟨b, m * 4 + 3, none⟩ = some g) := (t2 _ (.inr (by omega))).trans p3
      have c2 := hX.out.mono m (by omega)
      have hsw : b < wr.heap.size := by omega
      have hs3 := t1.1
      have hmk : Hid (Calls Try.prog 38 #[g, .int .i64 (kk + 3)] W3 fun e w' => e = .returned (.int .i64 (kk + 3 + (xs[m].gone.length : Nat))) ∧ Touch lo hi w w' ∧ AnsX lo hi w' (.slice (some ⟨b, 0, none⟩) xs.length c) (markTo k xs (m + 1)) b c cut gs) := by
        refine (markInts_calls g xs[m].gone (kk + 3) W3 (cut m) (cut (m + 1)) (by omega) (i.kept (t1.same (by omega) (.inr (by omega)))) (by omega) (by omega) (by omega)).mono ?_
        rintro e w' ⟨he, ht, hi'⟩
        refine ⟨he, (hT.out.trans (t1.mono (by omega) (by omega))).trans (ht.mono (by omega) (by omega)), ?_⟩
        rw [← hset]
        exact hX.out.marked (by omega) hgm ⟨kk, kk + 1, kk + 2, iota (kk + 3) xs[m].gone.length⟩ t1 t2 t3 t4 (by rw [t5]; congr 2; show kk + 1 + 1 = kk + 2; omega) ht hi'
      obtain ⟨ga, gc, hgf⟩ := i.form
      subst hgf
      clear t1 t2 t3 t4 t5 r i hroom hlo c0 c1 c2 hsw hs3 hX hT p3 hget hset hgm hkk
      have hgl0 : xs[m].gone.length ≤ 400 := hgl
      clear hgl
      generalize xs[m].gone.length = gl at *
      have hz4 : kk + 1 + 1 + 1 = kk + 3 := by omega
      clear hle hle2
      go_upto_region 9 with fail
      rw [← eW3]
      have hp3' := hp3.out
      clear eW3 p0 p1 p2 f0 f1 f2
      go_wp2_with (go_at_call 38; refine (show Calls _ _ _ _ _ from hmk.out).mono ?_; rintro e w1 ⟨rfl, hT1, hX1⟩; have hTH : Hid _ := hT1; have hXH : Hid _ := hX1; clear hT1 hX1)
      go_roundw
      case rel => exact ⟨m + 1, by omega, by rw [hst.out]; have := hkkH.out; congr 1; omega, by go_num, hTH, hXH⟩
      case measure => simp [intOf]; omega
    · have hmE : m = xs.length := by omega
      have hge : ¬ ((m : Int) < (xs.length : Int)) := by omega
      subst hmE
      have hfin : Hid (AnsX lo hi wr (.slice (some ⟨b, 0, none⟩) xs.length c) (markA k xs) b c cut gs) := by
        have := hX.out
        rw [markTo, List.take_of_length_le (by rw [markA_length]; exact Nat.le_refl _), List.drop_length, List.append_nil] at this
        exact this
      go_wp2
      go_ret
      exact ⟨by simp, hT.out, hfin.out⟩
end Go.Proofs.Ytcigiilhlealdaa
