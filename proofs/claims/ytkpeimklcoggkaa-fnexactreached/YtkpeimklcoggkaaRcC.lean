/- Marks on rows of objects. -/
import Derived.Test.YtkpeimklcoggkaaRcB
namespace Go.Proofs.Ytkpeimklcoggkaa
set_option linter.unusedVariables false
open Go.ChangeShapes Go.WideShapes Go.ChangeAt Go.RowKit

/-- A row of a call's own: k cells an element, what they are not said. -/
def RowAt (k : Nat) (lo hi : Nat) (w : World) (v : Value) (n : Nat) : Prop := ∃ b c, v = .slice (some ⟨b, 0, none⟩) n c ∧ lo ≤ b ∧ b < hi ∧ w.there b 0 (n * k)
theorem ListAt.rowAt {α : Type} {R : Rd α} {k lo hi : Nat} {w : World} {v : Value} {xs : List α} (h : ListAt R k true lo hi w v xs) : RowAt k lo hi w v xs.length := by
  rcases h with ⟨h, _⟩ | ⟨b, off, c, hv, hlo, hhi, ho, hc⟩
  · cases h
  · obtain ⟨h0, ht, _⟩ := ho rfl
    subst h0
    exact ⟨b, c, hv, hlo, hhi, ht⟩
theorem RowAt.touch {k lo hi a b : Nat} {w w' : World} {v : Value} {n : Nat} (h : RowAt k lo hi w v n) (hh : hi ≤ w.heap.size) (ht : Touch a b w w') : RowAt k lo hi w' v n := by
  obtain ⟨g, c, hv, h1, h2, h3⟩ := h
  exact ⟨g, c, hv, h1, h2, ht.there (by omega) h3⟩
theorem there_cell {w : World} {b n : Nat} (h : w.there b 0 n) (j : Nat) (hj : j < n) : (∃ q, w.cell? ⟨b, j, none⟩ = some q) ∧ w.frozen? ⟨b, j, none⟩ = false := by
  have := h j hj
  simp only [Nat.zero_add] at this
  exact ⟨Option.isSome_iff_exists.1 this.1, this.2⟩

set_option maxRecDepth 1000000 in
set_option maxHeartbeats 1000000 in
theorem markVals_calls (v : Value) (n : Nat) (k : Int) (w : World) (lo hi : Nat) (hh : hi ≤ w.heap.size) (hv : RowAt 2 lo hi w v n) (h0 : 0 ≤ k) (hk : k ≤ 4611686018427387903) (hn : n ≤ 1048576) :
    Calls Try.prog 22 #[v, .int .i64 k] w fun e w' => e = .returned (.int .i64 (k + 2 * n)) ∧ Touch lo hi w w' := by
  obtain ⟨b, c, rfl, hb1, hb2, ht⟩ := hv
  have htH : Hid (∀ W, Touch lo hi w W → W.there b 0 (n * 2)) := fun W hW => hW.there (by omega) ht
  clear hh ht
  go_enter Try.func22, Try.ntmps22
  go_wp2
  go_loopw [1, 5] (fun kv i wr => ∃ m : Nat, m ≤ n ∧ kv = .int .i64 (k + 2 * m) ∧ i = .int .i64 m ∧ Hid (Touch lo hi w wr)) (fun _ i _ => n - (intOf i).toNat)
  case atStart => exact ⟨0, Nat.zero_le _, by simp, rfl, Touch.refl _ _ _⟩
  case round =>
    obtain ⟨m, hm, rfl, rfl, hT⟩ := hrel
    by_cases hlt : m < n
    · have hlt' : (m : Int) < (n : Int) := by omega
      have hm0 : (0 : Int) ≤ m := by omega
      obtain ⟨⟨q0, hq0⟩, hf0⟩ := there_cell (htH.out wr hT.out) (m * 2) (by omega)
      have hT1 := hT.out.trans (Touch.setCell wr b (m * 2) (.int .i64 (k + 2 * m)) hb1 hb2 hq0)
      obtain ⟨⟨q1, hq1⟩, hf1⟩ := there_cell (htH.out _ hT1) (m * 2 + 1) (by omega)
      have hT2 : Hid (Touch lo hi w ((wr.setCell ⟨b, m * 2, none⟩ (.int .i64 (k + 2 * m))).setCell ⟨b, m * 2 + 1, none⟩ (.int .i64 (k + 2 * m + 1)))) := hT1.trans (Touch.setCell _ b (m * 2 + 1) _ hb1 hb2 hq1)
      clear hT1 hT
      go_wp2
      go_roundw
      case rel => exact ⟨m + 1, by omega, by go_num, by go_num, hT2⟩
      case measure => simp [intOf]; omega
    · have hme : m = n := by omega
      go_wp2
      go_ret
      exact ⟨by first | rfl | (rw [hme]; rfl), hT.out⟩

/-- How many marks a row of objects takes. -/
def marksOf (xs : List ObjL) : Int := 2 * xs.length + 2 * ((xs.map (fun x => x.vals.length)).sum : Nat)
set_option maxRecDepth 1000000 in
set_option maxHeartbeats 2000000 in
theorem markObjs_calls (v : Value) (xs : List ObjL) (k : Nat) (w : World) (lo hi : Nat) (hh : hi ≤ w.heap.size) (hv : ListAt ObjR 3 true lo hi w v xs) (h0 : 1 ≤ k) (hk : k ≤ 1024) (hn : xs.length + (xs.map (fun x => x.vals.length)).sum ≤ 1048576) :
    Calls Try.prog 11 #[v, .int .i64 k] w fun e w' => (∃ r : Int, e = .returned (.int .i64 r) ∧ 0 ≤ r ∧ r ≤ 4194304) ∧ Touch lo hi w w' := by
  rcases hv with ⟨hv, _⟩ | ⟨b, off, c, rfl, hb1, hb2, ho, hc⟩
  · cases hv
  obtain ⟨hz, ht, _⟩ := ho rfl
  subst hz
  have hbs : b < w.heap.size := by omega
  have htH : Hid (∀ W, Touch lo hi w W → W.there b 0 (xs.length * 3)) := fun W hW => hW.there hbs ht
  have hrow : Hid (∀ j (h : j < xs.length), ∃ u, RowAt 2 (b + 1) hi w u xs[j].vals.length ∧ w.cell? ⟨b, j * 3 + 2, none⟩ = some u) := fun j h => by
    obtain ⟨row, hl, hr, _, hy⟩ := hc j h
    obtain ⟨u, rfl, hu⟩ := hy rfl
    exact ⟨u, hu.rowAt, by simpa using hr 2 u rfl⟩
  have hhH : Hid (hi ≤ w.heap.size) := hh
  have hsum : Hid (∀ m (h : m < xs.length), ((xs.take (m + 1)).map (fun x => x.vals.length)).sum = ((xs.take m).map (fun x => x.vals.length)).sum + xs[m].vals.length) := fun m h => sum_take (fun x : ObjL => x.vals.length) xs m h
  have hsle : Hid (∀ m, ((xs.take m).map (fun x => x.vals.length)).sum ≤ (xs.map (fun x => x.vals.length)).sum) := fun m => sum_take_le (fun x : ObjL => x.vals.length) xs m
  clear hh hc ho ht
  go_enter Try.func11, Try.ntmps11
  go_wp2
  go_loopw [1, 5] (fun kv i wr => ∃ m z : Nat, m ≤ xs.length ∧ kv = .int .i64 z ∧ 1 ≤ z ∧ Hid (z = k + 2 * m + 2 * ((xs.take m).map (fun x => x.vals.length)).sum) ∧ z ≤ 4194000 ∧ i = .int .i64 m ∧ Hid (Touch lo hi w wr) ∧ Hid (∀ j (h : j < xs.length), m ≤ j → wr.cell? ⟨b, j * 3 + 2, none⟩ = w.cell? ⟨b, j * 3 + 2, none⟩)) (fun _ i _ => xs.length - (intOf i).toNat)
  case atStart => exact ⟨0, k, Nat.zero_le _, rfl, h0, by simp [Hid], by omega, rfl, Touch.refl _ _ _, fun _ _ _ => rfl⟩
  case round =>
    obtain ⟨m, z, hm, rfl, hz1, hz, hzb, rfl, hT, hR⟩ := hrel
    by_cases hlt : m < xs.length
    · have hlt' : (m : Int) < (xs.length : Int) := by omega
      have hm0 : (0 : Int) ≤ m := by omega
      obtain ⟨u, hu, huc⟩ := hrow.out m hlt
      obtain ⟨g, c', rfl, hg1, hg2, hg3⟩ := hu
      have hv2 : wr.cell? ⟨b, m * 3 + 2, none⟩ = some (.slice (some ⟨g, 0, none⟩) xs[m].vals.length c') := (hR.out m hlt (Nat.le_refl _)).trans huc
      have hs1 := hsum.out m hlt
      have hs2 := hsle.out (m + 1)
      have hz2 := hz.out
      have hnv : xs[m].vals.length ≤ 1048576 := by omega
      have hz3 : (z : Int) + 2 + 2 * xs[m].vals.length ≤ 4194000 := by omega
      have hzN : Hid (z + 2 + 2 * xs[m].vals.length = k + 2 * (m + 1) + 2 * ((xs.take (m + 1)).map (fun x => x.vals.length)).sum) := by show _ = _; omega
      obtain ⟨ln, hln⟩ : ∃ ln, ln = xs[m].vals.length := ⟨_, rfl⟩
      rw [← hln] at hv2 hnv hz3 hg3 huc hzN
      have cT1 : Hid (∀ W, Calls Try.prog 21 #[.int .i64 (z : Int)] W fun e w' => e = .returned (.string (markS z)) ∧ Below W.heap.size W w') := fun W => markText_calls z W (by omega) (by omega)
      have cT2 : Hid (∀ W, Calls Try.prog 21 #[.int .i64 ((z : Int) + 1)] W fun e w' => e = .returned (.string (markS (z + 1))) ∧ Below W.heap.size W w') := fun W => by
        have := markText_calls (z + 1) W (by omega) (by omega)
        rwa [show ((z + 1 : Nat) : Int) = (z : Int) + 1 by omega] at this
      generalize markS z = t1 at cT1
      generalize markS (z + 1) = t2 at cT2
      have hucH : Hid (w.cell? ⟨b, m * 3 + 2, none⟩ = some (.slice (some ⟨g, 0, none⟩) ln c')) := huc
      clear hs1 hs2 hz2 hln huc
      go_wp2_with fail
      refine (cT1.out _).mono ?_
      rintro e w1 ⟨rfl, hbw1⟩
      have T1 : Hid (Touch lo hi w w1) := hT.out.trans (Touch.below hbw1 (by have := hT.out.1; omega))
      have k1 : Hid (∀ j (h : j < xs.length), m ≤ j → w1.cell? ⟨b, j * 3 + 2, none⟩ = w.cell? ⟨b, j * 3 + 2, none⟩) := fun j h hj => by rw [hbw1.cell (p := ⟨b, j * 3 + 2, none⟩) (by have := hT.out.1; show b < _; omega)]; exact hR.out j h hj
      obtain ⟨⟨q0, hq0⟩, hf0⟩ := there_cell (htH.out w1 T1.out) (m * 3) (by omega)
      clear hbw1 hv2
      have T2 : Hid (Touch lo hi w (w1.setCell ⟨b, m * 3, none⟩ (.string t1))) := T1.out.trans (Touch.setCell w1 b (m * 3) _ hb1 hb2 hq0)
      have k2 : Hid (∀ j (h : j < xs.length), m ≤ j → (w1.setCell ⟨b, m * 3, none⟩ (.string t1)).cell? ⟨b, j * 3 + 2, none⟩ = w.cell? ⟨b, j * 3 + 2, none⟩) := fun j h hj => by rw [World.cell?_setCell_other _ _ _ _ (fun e => by injection e with _ e2; omega)]; exact k1.out j h hj
      go_wp2_with fail
      obtain ⟨W2, hW2⟩ : ∃ W2, W2 = w1.setCell ⟨b, m * 3, none⟩ (.string t1) := ⟨_, rfl⟩
      rw [← hW2] at T2 k2 ⊢
      clear hW2 T1 k1 hq0 hf0
      refine (cT2.out _).mono ?_
      rintro e w3 ⟨rfl, hbw3⟩
      have T3 : Hid (Touch lo hi w w3) := T2.out.trans (Touch.below hbw3 (by have := T2.out.1; omega))
      have k3 : Hid (∀ j (h : j < xs.length), m ≤ j → w3.cell? ⟨b, j * 3 + 2, none⟩ = w.cell? ⟨b, j * 3 + 2, none⟩) := fun j h hj => by rw [hbw3.cell (p := ⟨b, j * 3 + 2, none⟩) (by have := T2.out.1; show b < _; omega)]; exact k2.out j h hj
      obtain ⟨⟨q1, hq1⟩, hf1⟩ := there_cell (htH.out w3 T3.out) (m * 3 + 1) (by omega)
      clear hbw3
      have T4 : Hid (Touch lo hi w (w3.setCell ⟨b, m * 3 + 1, none⟩ (.string t2))) := T3.out.trans (Touch.setCell w3 b (m * 3 + 1) _ hb1 hb2 hq1)
      have k4 : Hid (∀ j (h : j < xs.length), m ≤ j → (w3.setCell ⟨b, m * 3 + 1, none⟩ (.string t2)).cell? ⟨b, j * 3 + 2, none⟩ = w.cell? ⟨b, j * 3 + 2, none⟩) := fun j h hj => by rw [World.cell?_setCell_other _ _ _ _ (fun e => by injection e with _ e2; omega)]; exact k3.out j h hj
      have hv4 : (w3.setCell ⟨b, m * 3 + 1, none⟩ (.string t2)).cell? ⟨b, m * 3 + 2, none⟩ = some (.slice (some ⟨g, 0, none⟩) ln c') := (k4.out m hlt (Nat.le_refl _)).trans hucH.out
      have cV : Hid (∀ W, Touch lo hi w W → Calls Try.prog 22 #[.slice (some ⟨g, 0, none⟩) ln c', .int .i64 ((z : Int) + 1 + 1)] W fun e w' => e = .returned (.int .i64 ((z : Int) + 1 + 1 + 2 * ln)) ∧ Touch (b + 1) hi W w') := fun W hW => markVals_calls _ ln _ W (b + 1) hi (Nat.le_trans hhH.out hW.1) ⟨g, c', rfl, hg1, hg2, hW.there (by have := hhH.out; omega) hg3⟩ (by omega) (by omega) hnv
      clear T3 k3
      go_wp2_with fail
      refine (cV.out _ T4.out).mono ?_
      rintro e w5 ⟨rfl, hT5⟩
      have T5 : Hid (Touch lo hi w w5) := T4.out.trans (hT5.mono (by omega) (Nat.le_refl _))
      have k5 : Hid (∀ j (h : j < xs.length), m ≤ j → w5.cell? ⟨b, j * 3 + 2, none⟩ = w.cell? ⟨b, j * 3 + 2, none⟩) := fun j h hj => by rw [(hT5.2.2 ⟨b, j * 3 + 2, none⟩ (by have := T4.out.1; show b < _; omega)).1 (.inl (by show b < b + 1; omega))]; exact k4.out j h hj
      clear hT5 T4 k4 hv4 hq1 hf1
      go_wp2
      go_roundw
      case rel => exact ⟨m + 1, z + 2 + 2 * ln, by omega, by go_num, by omega, hzN, by omega, by go_num, T5, fun j h hj => k5.out j h (by omega)⟩
      case measure => simp [intOf]; omega
    · have hme : m = xs.length := by omega
      clear hz hR
      go_wp2
      go_ret
      exact ⟨⟨z, rfl, by omega, by omega⟩, hT.out⟩
end Go.Proofs.Ytkpeimklcoggkaa
