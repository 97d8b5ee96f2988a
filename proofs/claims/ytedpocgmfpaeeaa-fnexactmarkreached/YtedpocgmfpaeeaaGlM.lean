/- Marks on heaps. -/
import Derived.Test.YtedpocgmfpaeeaaGlB
import Derived.Test.YtedpocgmfpaeeaaGlS
namespace Go.Proofs.Ytedpocgmfpaeeaa
set_option linter.unusedVariables false
open Go.ChangeShapes Go.WideShapes Go.ChangeAt Go.RowKit

set_option maxRecDepth 1000000 in
set_option maxHeartbeats 1000000 in
theorem markIntT_calls (v : Value) (n : Nat) (k : Int) (w : World) (lo hi : Nat) (hh : hi ≤ w.heap.size) (hv : RowAt 1 lo hi w v n) (h0 : 0 ≤ k) (hk : k ≤ 8388608) (hn : n ≤ 5242880) :
    Calls Try.prog 12 #[v, .int .i64 k] w fun e w' => e = .returned (.int .i64 (k + n)) ∧ Touch lo hi w w' := by
  obtain ⟨b, c, rfl, hb1, hb2, ht⟩ := hv
  have htH : Hid (∀ W, Touch lo hi w W → W.there b 0 (n * 1)) := fun W hW => hW.there (by omega) ht
  clear hh ht
  go_enter Try.func12, Try.ntmps12
  go_wp2
  go_loopw [1, 5] (fun kv i wr => ∃ m : Nat, m ≤ n ∧ kv = .int .i64 (k + m) ∧ i = .int .i64 m ∧ Hid (Touch lo hi w wr)) (fun _ i _ => n - (intOf i).toNat)
  case atStart => exact ⟨0, Nat.zero_le _, by simp, rfl, Touch.refl _ _ _⟩
  case round =>
    obtain ⟨m, hm, rfl, rfl, hT⟩ := hrel
    by_cases hlt : m < n
    · have hlt' : (m : Int) < (n : Int) := by omega
      have hm0 : (0 : Int) ≤ m := by omega
      obtain ⟨⟨q0, hq0⟩, hf0⟩ := there_cell (htH.out _ hT.out) m (by omega)
      have hTf : Hid (Touch lo hi w (wr.setCell ⟨b, m, none⟩ (.int .i64 (k + m)))) := hT.out.trans (Touch.setCell wr b m _ hb1 hb2 hq0)
      clear hT
      go_wp2
      go_roundw
      case rel => exact ⟨m + 1, by omega, by go_num, by go_num, hTf⟩
      case measure => simp [intOf]; omega
    · have hme : m = n := by omega
      subst hme
      go_wp2
      go_ret
      exact ⟨rfl, hT.out⟩
/-- How many marks a row of objects takes. -/
def marksG (xs : List GobL) : Nat := 4 * xs.length + (xs.map GobL.sz).sum
theorem marksG_take (xs : List GobL) (m : Nat) (h : m < xs.length) : marksG (xs.take (m + 1)) = marksG (xs.take m) + 4 + xs[m].flds.length := by
  unfold marksG
  have h1 := sum_take GobL.sz xs m h
  have h2 : xs[m].sz = xs[m].flds.length := rfl
  rw [h1, List.length_take, List.length_take]
  omega
theorem marksG_le (xs : List GobL) (m : Nat) : marksG (xs.take m) ≤ marksG xs := by
  unfold marksG
  have h1 := sum_take_le GobL.sz xs m
  have h2 : (xs.take m).length ≤ xs.length := by rw [List.length_take]; omega
  omega
set_option maxRecDepth 1000000 in
set_option maxHeartbeats 4000000 in
theorem markGobS_calls (v : Value) (xs : List GobL) (w : World) (lo hi : Nat) (hh : hi ≤ w.heap.size) (hv : ListAt GobR 5 true lo hi w v xs) (hn : marksG xs ≤ 5242880) :
    Calls Try.prog 31 #[v, .int .i64 1] w fun e w' => e = .returned (.int .i64 (1 + (marksG xs : Int))) ∧ Touch lo hi w w' := by
  rcases hv with ⟨hv, _⟩ | ⟨b, off, c, rfl, hb1, hb2, ho, hc⟩
  · cases hv
  obtain ⟨hz, ht, _⟩ := ho rfl
  subst hz
  have htH : Hid (∀ W, Touch lo hi w W → W.there b 0 (xs.length * 5)) := fun W hW => hW.there (by omega) ht
  have hrow : Hid (∀ j (h : j < xs.length), ∃ u uc, RowAt 1 (b + 1) hi w (.slice u xs[j].flds.length uc) xs[j].flds.length ∧ w.cell? ⟨b, j * 5 + 4, none⟩ = some (.slice u xs[j].flds.length uc)) := fun j h => by
    obtain ⟨row, hl, hr, _, hy⟩ := hc j h
    obtain ⟨u, rfl, hu⟩ := hy rfl
    obtain ⟨ua, uc, rfl⟩ := hu.form
    exact ⟨ua, uc, hu.rowAt, by simpa using hr 4 _ rfl⟩
  have hhH : Hid (hi ≤ w.heap.size) := hh
  have hbs : Hid (b < w.heap.size) := Nat.lt_of_lt_of_le hb2 hh
  have hmt : Hid (∀ m (h : m < xs.length), marksG (xs.take (m + 1)) = marksG (xs.take m) + 4 + xs[m].flds.length) := fun m h => marksG_take xs m h
  have hml : Hid (∀ m, marksG (xs.take m) ≤ 5242880) := fun m => Nat.le_trans (marksG_le xs m) hn
  have hxl : xs.length ≤ 5242880 := by unfold marksG at hn; omega
  have hend : Hid (marksG (xs.take xs.length) = marksG xs) := by show _ = _; rw [List.take_length]
  generalize marksG xs = MG at hend ⊢
  clear hh hc ho ht hn
  go_enter Try.func31, Try.ntmps31
  go_wp2
  go_loopw [1, 5] (fun kv i wr => ∃ m z : Nat, m ≤ xs.length ∧ kv = .int .i64 z ∧ Hid (z = 1 + marksG (xs.take m)) ∧ i = .int .i64 m ∧ Hid (Touch lo hi w wr) ∧ Hid (∀ j (h : j < xs.length), m ≤ j → wr.cell? ⟨b, j * 5 + 4, none⟩ = w.cell? ⟨b, j * 5 + 4, none⟩)) (fun _ i _ => xs.length - (intOf i).toNat)
  case atStart => exact ⟨0, 1, Nat.zero_le _, rfl, by simp [Hid, marksG], rfl, Touch.refl _ _ _, fun _ _ _ => rfl⟩
  case round =>
    obtain ⟨m, z, hm, rfl, hz, rfl, hT, hR⟩ := hrel
    have hzb : (z : Int) ≤ 5242881 := by have := hz.out; have := hml.out m; omega
    by_cases hlt : m < xs.length
    · have hlt' : (m : Int) < (xs.length : Int) := by omega
      have hm0 : (0 : Int) ≤ m := by omega
      obtain ⟨u, uc, hu, huc⟩ := hrow.out m hlt
      have hT0 := hT.out
      have hR0 := hR.out
      obtain ⟨⟨q0, hq0⟩, hf0⟩ := there_cell (htH.out _ hT0) (m * 5) (by omega)
      have hT1 := hT0.trans (Touch.setCell wr b (m * 5) (.int .i64 ((z : Int))) hb1 hb2 hq0)
      have hR1 : ∀ j (h : j < xs.length), m ≤ j → (wr.setCell ⟨b, m * 5, none⟩ (.int .i64 ((z : Int)))).cell? ⟨b, j * 5 + 4, none⟩ = w.cell? ⟨b, j * 5 + 4, none⟩ := fun j h hj => by rw [World.cell?_setCell_other _ _ _ _ (fun e => by injection e with _ e2; omega)]; exact hR0 j h hj
      obtain ⟨⟨q1, hq1⟩, hf1⟩ := there_cell (htH.out _ hT1) (m * 5 + 1) (by omega)
      have hT2 := hT1.trans (Touch.setCell (wr.setCell ⟨b, m * 5, none⟩ (.int .i64 ((z : Int)))) b (m * 5 + 1) (.int .i64 ((z : Int) + 1)) hb1 hb2 hq1)
      have hR2 : ∀ j (h : j < xs.length), m ≤ j → ((wr.setCell ⟨b, m * 5, none⟩ (.int .i64 ((z : Int)))).setCell ⟨b, m * 5 + 1, none⟩ (.int .i64 ((z : Int) + 1))).cell? ⟨b, j * 5 + 4, none⟩ = w.cell? ⟨b, j * 5 + 4, none⟩ := fun j h hj => by rw [World.cell?_setCell_other _ _ _ _ (fun e => by injection e with _ e2; omega)]; exact hR1 j h hj
      obtain ⟨⟨q2, hq2⟩, hf2⟩ := there_cell (htH.out _ hT2) (m * 5 + 2) (by omega)
      have hT3 := hT2.trans (Touch.setCell ((wr.setCell ⟨b, m * 5, none⟩ (.int .i64 ((z : Int)))).setCell ⟨b, m * 5 + 1, none⟩ (.int .i64 ((z : Int) + 1))) b (m * 5 + 2) (.int .i64 ((z : Int) + 1 + 1)) hb1 hb2 hq2)
      have hR3 : ∀ j (h : j < xs.length), m ≤ j → (((wr.setCell ⟨b, m * 5, none⟩ (.int .i64 ((z : Int)))).setCell ⟨b, m * 5 + 1, none⟩ (.int .i64 ((z : Int) + 1))).setCell ⟨b, m * 5 + 2, none⟩ (.int .i64 ((z : Int) + 1 + 1))).cell? ⟨b, j * 5 + 4, none⟩ = w.cell? ⟨b, j * 5 + 4, none⟩ := fun j h hj => by rw [World.cell?_setCell_other _ _ _ _ (fun e => by injection e with _ e2; omega)]; exact hR2 j h hj
      obtain ⟨⟨q3, hq3⟩, hf3⟩ := there_cell (htH.out _ hT3) (m * 5 + 3) (by omega)
      have hT4 := hT3.trans (Touch.setCell (((wr.setCell ⟨b, m * 5, none⟩ (.int .i64 ((z : Int)))).setCell ⟨b, m * 5 + 1, none⟩ (.int .i64 ((z : Int) + 1))).setCell ⟨b, m * 5 + 2, none⟩ (.int .i64 ((z : Int) + 1 + 1))) b (m * 5 + 3) (.int .i64 ((z : Int) + 1 + 1 + 1)) hb1 hb2 hq3)
      have hR4 : ∀ j (h : j < xs.length), m ≤ j → ((((wr.setCell ⟨b, m * 5, none⟩ (.int .i64 ((z : Int)))).setCell ⟨b, m * 5 + 1, none⟩ (.int .i64 ((z : Int) + 1))).setCell ⟨b, m * 5 + 2, none⟩ (.int .i64 ((z : Int) + 1 + 1))).setCell ⟨b, m * 5 + 3, none⟩ (.int .i64 ((z : Int) + 1 + 1 + 1))).cell? ⟨b, j * 5 + 4, none⟩ = w.cell? ⟨b, j * 5 + 4, none⟩ := fun j h hj => by rw [World.cell?_setCell_other _ _ _ _ (fun e => by injection e with _ e2; omega)]; exact hR3 j h hj
      have hz2 : Hid (z + 4 + xs[m].flds.length = 1 + marksG (xs.take (m + 1))) := by show _ = _; rw [hmt.out m hlt, hz.out]; omega
      have hzb2 : (z : Int) + 4 + (xs[m].flds.length : Int) ≤ 5242881 := by have := hz2.out; have := hml.out (m + 1); omega
      have hv4 : ((((wr.setCell ⟨b, m * 5, none⟩ (.int .i64 ((z : Int)))).setCell ⟨b, m * 5 + 1, none⟩ (.int .i64 ((z : Int) + 1))).setCell ⟨b, m * 5 + 2, none⟩ (.int .i64 ((z : Int) + 1 + 1))).setCell ⟨b, m * 5 + 3, none⟩ (.int .i64 ((z : Int) + 1 + 1 + 1))).cell? ⟨b, m * 5 + 4, none⟩ = some (.slice u xs[m].flds.length uc) := (hR4 m hlt (Nat.le_refl _)).trans huc
      have T4 : Hid (Touch lo hi w ((((wr.setCell ⟨b, m * 5, none⟩ (.int .i64 ((z : Int)))).setCell ⟨b, m * 5 + 1, none⟩ (.int .i64 ((z : Int) + 1))).setCell ⟨b, m * 5 + 2, none⟩ (.int .i64 ((z : Int) + 1 + 1))).setCell ⟨b, m * 5 + 3, none⟩ (.int .i64 ((z : Int) + 1 + 1 + 1)))) := hT4
      have K4 : Hid (∀ j (h : j < xs.length), m ≤ j → ((((wr.setCell ⟨b, m * 5, none⟩ (.int .i64 ((z : Int)))).setCell ⟨b, m * 5 + 1, none⟩ (.int .i64 ((z : Int) + 1))).setCell ⟨b, m * 5 + 2, none⟩ (.int .i64 ((z : Int) + 1 + 1))).setCell ⟨b, m * 5 + 3, none⟩ (.int .i64 ((z : Int) + 1 + 1 + 1))).cell? ⟨b, j * 5 + 4, none⟩ = w.cell? ⟨b, j * 5 + 4, none⟩) := hR4
      have hcall : Hid (∀ W, Touch lo hi w W → Calls Try.prog 12 #[.slice u xs[m].flds.length uc, .int .i64 ((z : Int) + 1 + 1 + 1 + 1)] W fun e w' => e = .returned (.int .i64 ((z : Int) + 1 + 1 + 1 + 1 + (xs[m].flds.length : Int))) ∧ Touch (b + 1) hi W w') := fun W hW => markIntT_calls _ _ _ W (b + 1) hi (Nat.le_trans hhH.out hW.1) (hu.touch hhH.out hW) (by omega) (by omega) (by have := hml.out (m + 1); have := hmt.out m hlt; omega)
      generalize xs[m].flds.length = ln at *
      clear hu huc hz hT hR hT0 hT1 hT2 hT3 hT4 hR0 hR1 hR2 hR3 hR4
      go_wp2_with fail
      refine (show Calls _ _ _ _ _ from hcall.out _ T4.out).mono ?_
      rintro e w5 ⟨rfl, hT5⟩
      have T5 : Hid (Touch lo hi w w5) := T4.out.trans (hT5.mono (Nat.le_succ_of_le hb1) (Nat.le_refl _))
      have K5 : Hid (∀ j (h : j < xs.length), m + 1 ≤ j → w5.cell? ⟨b, j * 5 + 4, none⟩ = w.cell? ⟨b, j * 5 + 4, none⟩) := fun j h hj => ((hT5.2.2 ⟨b, j * 5 + 4, none⟩ (Nat.lt_of_lt_of_le hbs.out T4.out.1)).1 (.inl (Nat.lt_succ_self b))).trans (K4.out j h (by omega))
      clear hT5 T4 K4 hv4
      go_wp2
      go_roundw
      case rel => exact ⟨m + 1, z + 4 + ln, by omega, by go_num, hz2, by go_num, T5, K5⟩
      case measure => simp [intOf]; omega
    · have hme : m = xs.length := by omega
      have hfin : Hid ((z : Int) = 1 + (MG : Int)) := by
        show _ = _
        have h1 := hz.out
        have h2 := hend.out
        rw [hme, h2] at h1
        omega
      clear hz hR
      go_wp2
      go_ret
      exact ⟨by rw [← hfin.out]; rfl, hT.out⟩

set_option maxRecDepth 1000000 in
set_option maxHeartbeats 4000000 in
theorem markGhp_calls (x : GhpL) (a0 a1 a2 a3 a4 : Option Addr) (k0 k1 k2 k3 k4 : Nat) (w : World) (lo hi : Nat) (hlo : lo ≤ w.heap.size) (hh : hi ≤ w.heap.size) (g0 : ListAt GobR 5 true lo hi w (.slice a0 x.objs.length k0) x.objs) (g1 : ListAt IntR 1 true lo hi w (.slice a1 x.roots.length k1) x.roots) (g2 : ListAt IntR 1 true lo hi w (.slice a2 x.queue.length k2) x.queue) (g3 : ListAt IntR 1 true lo hi w (.slice a3 x.tops.length k3) x.tops) (g4 : ListAt IntR 1 true lo hi w (.slice a4 x.dirty.length k4) x.dirty) (hn : x.sz ≤ 1048576) :
    Calls Try.prog 11 #[.agg #[.slice a0 x.objs.length k0, .slice a1 x.roots.length k1, .slice a2 x.queue.length k2, .int .i64 x.from_, .slice a3 x.tops.length k3, .slice a4 x.dirty.length k4], .int .i64 1] w fun e w' => (∃ r : Int, e = .returned (.int .i64 r) ∧ 0 ≤ r) ∧ Touch lo hi w w' := by
  have hs : marksG x.objs ≤ 4194304 ∧ x.roots.length ≤ 1048576 ∧ x.queue.length ≤ 1048576 ∧ x.tops.length ≤ 1048576 ∧ x.dirty.length ≤ 1048576 ∧ x.roots.length + x.queue.length + x.tops.length + x.dirty.length ≤ 1048576 := by
    unfold GhpL.sz sumL at hn
    unfold marksG
    omega
  obtain ⟨s0, s1, s2, s3, s4, s5⟩ := hs
  have c0 : Hid (∀ W, Below w.heap.size w W → Calls Try.prog 31 #[.slice a0 x.objs.length k0, .int .i64 1] W fun e w' => e = .returned (.int .i64 (1 + (marksG x.objs : Int))) ∧ Touch lo hi W w') := fun W hW => markGobS_calls _ x.objs W lo hi (Nat.le_trans hh hW.size) (g0.kept GobR.stable (Nat.le_refl _) (Nat.le_refl _) ((Same.below hW).mono (Nat.zero_le _) hh)) (by omega)
  have c1 : Hid (∀ (k : Int) W, 0 ≤ k → k ≤ 8388608 → Touch lo hi w W → Calls Try.prog 12 #[.slice a1 x.roots.length k1, .int .i64 k] W fun e w' => e = .returned (.int .i64 (k + (x.roots.length : Int))) ∧ Touch lo hi W w') := fun k W h0 h1 hW => markIntT_calls _ _ k W lo hi (Nat.le_trans hh hW.1) (g1.rowAt.touch hh hW) h0 h1 (by omega)
  have c2 : Hid (∀ (k : Int) W, 0 ≤ k → k ≤ 8388608 → Touch lo hi w W → Calls Try.prog 12 #[.slice a2 x.queue.length k2, .int .i64 k] W fun e w' => e = .returned (.int .i64 (k + (x.queue.length : Int))) ∧ Touch lo hi W w') := fun k W h0 h1 hW => markIntT_calls _ _ k W lo hi (Nat.le_trans hh hW.1) (g2.rowAt.touch hh hW) h0 h1 (by omega)
  have c3 : Hid (∀ (k : Int) W, 0 ≤ k → k ≤ 8388608 → Touch lo hi w W → Calls Try.prog 12 #[.slice a3 x.tops.length k3, .int .i64 k] W fun e w' => e = .returned (.int .i64 (k + (x.tops.length : Int))) ∧ Touch lo hi W w') := fun k W h0 h1 hW => markIntT_calls _ _ k W lo hi (Nat.le_trans hh hW.1) (g3.rowAt.touch hh hW) h0 h1 (by omega)
  have c4 : Hid (∀ (k : Int) W, 0 ≤ k → k ≤ 8388608 → Touch lo hi w W → Calls Try.prog 12 #[.slice a4 x.dirty.length k4, .int .i64 k] W fun e w' => e = .returned (.int .i64 (k + (x.dirty.length : Int))) ∧ Touch lo hi W w') := fun k W h0 h1 hW => markIntT_calls _ _ k W lo hi (Nat.le_trans hh hW.1) (g4.rowAt.touch hh hW) h0 h1 (by omega)
  generalize marksG x.objs = M0 at *
  generalize x.objs.length = m0 at *
  generalize x.roots.length = n1 at *
  generalize x.queue.length = n2 at *
  generalize x.tops.length = n3 at *
  generalize x.dirty.length = n4 at *
  generalize x.from_ = fr at *
  have t0 : Hid (∀ W, Below w.heap.size w W → Touch lo hi w W) := fun W hW => Touch.below hW hlo
  have hhH : Hid (hi ≤ w.heap.size) := hh
  clear g0 g1 g2 g3 g4 hn
  go_enter Try.func11, Try.ntmps11
  go_upto_region 1 with fail
  have hb0 : Hid (Below w.heap.size w (w.alloc (.cells #[.slice a0 m0 k0, .slice a1 n1 k1, .slice a2 n2 k2, .int .i64 fr, .slice a3 n3 k3, .slice a4 n4 k4] 30))) := below_1 _ _
  have r0 := rangeAt_heap (heap_alloc_new w (.cells #[.slice a0 m0 k0, .slice a1 n1 k1, .slice a2 n2 k2, .int .i64 fr, .slice a3 n3 k3, .slice a4 n4 k4] 30))
  have hs0 : w.heap.size < (w.alloc (.cells #[.slice a0 m0 k0, .slice a1 n1 k1, .slice a2 n2 k2, .int .i64 fr, .slice a3 n3 k3, .slice a4 n4 k4] 30)).heap.size := by simp
  generalize w.alloc (.cells #[.slice a0 m0 k0, .slice a1 n1 k1, .slice a2 n2 k2, .int .i64 fr, .slice a3 n3 k3, .slice a4 n4 k4] 30) = W0 at hb0 r0 hs0 ⊢
  have hcl : Hid (∀ W, Touch lo hi W0 W → W.cell? ⟨w.heap.size, 0, none⟩ = some (.slice a0 m0 k0) ∧ W.cell? ⟨w.heap.size, 1, none⟩ = some (.slice a1 n1 k1) ∧ W.cell? ⟨w.heap.size, 2, none⟩ = some (.slice a2 n2 k2) ∧ W.cell? ⟨w.heap.size, 4, none⟩ = some (.slice a3 n3 k3) ∧ W.cell? ⟨w.heap.size, 5, none⟩ = some (.slice a4 n4 k4)) := fun W hW => by
    have c : ∀ j v, W0.cell? ⟨w.heap.size, j, none⟩ = some v → W.cell? ⟨w.heap.size, j, none⟩ = some v := fun j v h => ((hW.2.2 ⟨w.heap.size, j, none⟩ hs0).1 (.inr hhH.out)).trans h
    exact ⟨c _ _ (r0 0 _ rfl), c _ _ (r0 1 _ rfl), c _ _ (r0 2 _ rfl), c _ _ (r0 4 _ rfl), c _ _ (r0 5 _ rfl)⟩
  clear r0 hs0
  obtain ⟨j0, j1, j2, j3, j4⟩ := hcl.out W0 (Touch.refl _ _ _)
  go_wp2_with fail
  clear j0 j1 j2 j3 j4
  refine (show Calls _ _ _ _ _ from c0.out _ hb0.out).mono ?_
  rintro e w1 ⟨rfl, T1⟩
  have U1 : Hid (Touch lo hi W0 w1) := T1
  clear T1
  obtain ⟨j0, j1, j2, j3, j4⟩ := hcl.out w1 U1.out
  go_wp2_with fail
  clear j0 j1 j2 j3 j4
  refine (show Calls _ _ _ _ _ from c1.out _ _ (by omega) (by omega) ((t0.out _ hb0.out).trans U1.out)).mono ?_
  rintro e w2 ⟨rfl, T2⟩
  have U2 : Hid (Touch lo hi W0 w2) := U1.out.trans T2
  clear T2
  obtain ⟨j0, j1, j2, j3, j4⟩ := hcl.out w2 U2.out
  go_wp2_with fail
  clear j0 j1 j2 j3 j4
  refine (show Calls _ _ _ _ _ from c2.out _ _ (by omega) (by omega) ((t0.out _ hb0.out).trans U2.out)).mono ?_
  rintro e w3 ⟨rfl, T3⟩
  have U3 : Hid (Touch lo hi W0 w3) := U2.out.trans T3
  clear T3
  obtain ⟨j0, j1, j2, j3, j4⟩ := hcl.out w3 U3.out
  go_wp2_with fail
  clear j0 j1 j2 j3 j4
  refine (show Calls _ _ _ _ _ from c3.out _ _ (by omega) (by omega) ((t0.out _ hb0.out).trans U3.out)).mono ?_
  rintro e w4 ⟨rfl, T4⟩
  have U4 : Hid (Touch lo hi W0 w4) := U3.out.trans T4
  clear T4
  obtain ⟨j0, j1, j2, j3, j4⟩ := hcl.out w4 U4.out
  go_wp2_with fail
  clear j0 j1 j2 j3 j4
  refine (show Calls _ _ _ _ _ from c4.out _ _ (by omega) (by omega) ((t0.out _ hb0.out).trans U4.out)).mono ?_
  rintro e w5 ⟨rfl, T5⟩
  have U5 : Hid (Touch lo hi W0 w5) := U4.out.trans T5
  clear T5
  go_wp2
  go_ret
  exact ⟨⟨_, rfl, by omega⟩, (t0.out _ hb0.out).trans U5.out⟩
end Go.Proofs.Ytedpocgmfpaeeaa
