/- Marks on heaps of the marker. -/
import Derived.Test.YtedpocgmfpaeeaaMlB
import Derived.Test.YtedpocgmfpaeeaaMlS
import Derived.Test.YtedpocgmfpaeeaaGlM
namespace Go.Proofs.Ytedpocgmfpaeeaa
set_option linter.unusedVariables false
open Go.ChangeShapes Go.WideShapes Go.ChangeAt Go.RowKit

/-- How many marks a row of objects takes. -/
def marksM (xs : List MobL) : Nat := 2 * xs.length + (xs.map MobL.sz).sum
theorem marksM_take (xs : List MobL) (m : Nat) (h : m < xs.length) : marksM (xs.take (m + 1)) = marksM (xs.take m) + 2 + xs[m].flds.length := by
  unfold marksM
  have h1 := sum_take MobL.sz xs m h
  have h2 : xs[m].sz = xs[m].flds.length := rfl
  rw [h1, List.length_take, List.length_take]
  omega
theorem marksM_le (xs : List MobL) (m : Nat) : marksM (xs.take m) ≤ marksM xs := by
  unfold marksM
  have h1 := sum_take_le MobL.sz xs m
  have h2 : (xs.take m).length ≤ xs.length := by rw [List.length_take]; omega
  omega
set_option maxRecDepth 1000000 in
set_option maxHeartbeats 4000000 in
theorem markMobS_calls (v : Value) (xs : List MobL) (w : World) (lo hi : Nat) (hh : hi ≤ w.heap.size) (hv : ListAt MobR 3 true lo hi w v xs) (hn : marksM xs ≤ 5242880) :
    Calls Try.prog 37 #[v, .int .i64 1] w fun e w' => e = .returned (.int .i64 (1 + (marksM xs : Int))) ∧ Touch lo hi w w' := by
  rcases hv with ⟨hv, _⟩ | ⟨b, off, c, rfl, hb1, hb2, ho, hc⟩
  · cases hv
  obtain ⟨hz, ht, _⟩ := ho rfl
  subst hz
  have htH : Hid (∀ W, Touch lo hi w W → W.there b 0 (xs.length * 3)) := fun W hW => hW.there (by omega) ht
  have hrow : Hid (∀ j (h : j < xs.length), ∃ u uc, RowAt 1 (b + 1) hi w (.slice u xs[j].flds.length uc) xs[j].flds.length ∧ w.cell? ⟨b, j * 3 + 1, none⟩ = some (.slice u xs[j].flds.length uc)) := fun j h => by
    obtain ⟨row, hl, hr, _, hy⟩ := hc j h
    obtain ⟨u, rfl, hu⟩ := hy rfl
    obtain ⟨ua, uc, rfl⟩ := hu.form
    exact ⟨ua, uc, hu.rowAt, by simpa using hr 1 _ rfl⟩
  have hhH : Hid (hi ≤ w.heap.size) := hh
  have hbs : Hid (b < w.heap.size) := Nat.lt_of_lt_of_le hb2 hh
  have hmt : Hid (∀ m (h : m < xs.length), marksM (xs.take (m + 1)) = marksM (xs.take m) + 2 + xs[m].flds.length) := fun m h => marksM_take xs m h
  have hml : Hid (∀ m, marksM (xs.take m) ≤ 5242880) := fun m => Nat.le_trans (marksM_le xs m) hn
  have hxl : xs.length ≤ 5242880 := by unfold marksM at hn; omega
  have hend : Hid (marksM (xs.take xs.length) = marksM xs) := by show _ = _; rw [List.take_length]
  generalize marksM xs = MG at hend ⊢
  clear hh hc ho ht hn
  go_enter Try.func37, Try.ntmps37
  go_wp2
  go_loopw [1, 5] (fun kv i wr => ∃ m z : Nat, m ≤ xs.length ∧ kv = .int .i64 z ∧ Hid (z = 1 + marksM (xs.take m)) ∧ i = .int .i64 m ∧ Hid (Touch lo hi w wr) ∧ Hid (∀ j (h : j < xs.length), m ≤ j → wr.cell? ⟨b, j * 3 + 1, none⟩ = w.cell? ⟨b, j * 3 + 1, none⟩)) (fun _ i _ => xs.length - (intOf i).toNat)
  case atStart => exact ⟨0, 1, Nat.zero_le _, rfl, by simp [Hid, marksM], rfl, Touch.refl _ _ _, fun _ _ _ => rfl⟩
  case round =>
    obtain ⟨m, z, hm, rfl, hz, rfl, hT, hR⟩ := hrel
    have hzb : (z : Int) ≤ 5242881 := by have := hz.out; have := hml.out m; omega
    by_cases hlt : m < xs.length
    · have hlt' : (m : Int) < (xs.length : Int) := by omega
      have hm0 : (0 : Int) ≤ m := by omega
      obtain ⟨u, uc, hu, huc⟩ := hrow.out m hlt
      obtain ⟨⟨q0, hq0⟩, hf0⟩ := there_cell (htH.out _ hT.out) (m * 3) (by omega)
      have T1 : Hid (Touch lo hi w (wr.setCell ⟨b, m * 3, none⟩ (.int .i64 (z : Int)))) := hT.out.trans (Touch.setCell wr b (m * 3) (.int .i64 (z : Int)) hb1 hb2 hq0)
      have K1 : Hid (∀ j (h : j < xs.length), m ≤ j → (wr.setCell ⟨b, m * 3, none⟩ (.int .i64 (z : Int))).cell? ⟨b, j * 3 + 1, none⟩ = w.cell? ⟨b, j * 3 + 1, none⟩) := fun j h hj => by rw [World.cell?_setCell_other _ _ _ _ (fun e => by injection e with _ e2; omega)]; exact hR.out j h hj
      have hz2 : Hid (z + 2 + xs[m].flds.length = 1 + marksM (xs.take (m + 1))) := by show _ = _; rw [hmt.out m hlt, hz.out]; omega
      have hzb2 : (z : Int) + 2 + (xs[m].flds.length : Int) ≤ 5242881 := by have := hz2.out; have := hml.out (m + 1); omega
      have hv4 : (wr.setCell ⟨b, m * 3, none⟩ (.int .i64 (z : Int))).cell? ⟨b, m * 3 + 1, none⟩ = some (.slice u xs[m].flds.length uc) := (K1.out m hlt (Nat.le_refl _)).trans huc
      have hcall : Hid (∀ W, Touch lo hi w W → Calls Try.prog 12 #[.slice u xs[m].flds.length uc, .int .i64 ((z : Int) + 1)] W fun e w' => e = .returned (.int .i64 ((z : Int) + 1 + (xs[m].flds.length : Int))) ∧ Touch (b + 1) hi W w') := fun W hW => markIntT_calls _ _ _ W (b + 1) hi (Nat.le_trans hhH.out hW.1) (hu.touch hhH.out hW) (by omega) (by omega) (by have := hml.out (m + 1); have := hz2.out; omega)
      generalize xs[m].flds.length = ln at *
      clear hu huc hz hT hR
      go_wp2_with fail
      refine (show Calls _ _ _ _ _ from hcall.out _ T1.out).mono ?_
      rintro e w5 ⟨rfl, hT5⟩
      have T5 : Hid (Touch lo hi w w5) := T1.out.trans (hT5.mono (Nat.le_succ_of_le hb1) (Nat.le_refl _))
      have K5 : Hid (∀ j (h : j < xs.length), m ≤ j → w5.cell? ⟨b, j * 3 + 1, none⟩ = w.cell? ⟨b, j * 3 + 1, none⟩) := fun j h hj => ((hT5.2.2 ⟨b, j * 3 + 1, none⟩ (Nat.lt_of_lt_of_le hbs.out T1.out.1)).1 (.inl (Nat.lt_succ_self b))).trans (K1.out j h hj)
      obtain ⟨⟨q2, hq2⟩, hf2⟩ := there_cell (htH.out _ T5.out) (m * 3 + 2) (by omega)
      have T6 : Hid (Touch lo hi w (w5.setCell ⟨b, m * 3 + 2, none⟩ (.int .i64 ((z : Int) + 1 + (ln : Int))))) := T5.out.trans (Touch.setCell w5 b (m * 3 + 2) _ hb1 hb2 hq2)
      have K6 : Hid (∀ j (h : j < xs.length), m + 1 ≤ j → (w5.setCell ⟨b, m * 3 + 2, none⟩ (.int .i64 ((z : Int) + 1 + (ln : Int)))).cell? ⟨b, j * 3 + 1, none⟩ = w.cell? ⟨b, j * 3 + 1, none⟩) := fun j h hj => by rw [World.cell?_setCell_other _ _ _ _ (fun e => by injection e with _ e2; omega)]; exact K5.out j h (by omega)
      clear hT5 T1 K1 hv4 T5 K5 hcall
      go_wp2
      go_roundw
      case rel => exact ⟨m + 1, z + 2 + ln, by omega, by go_num, hz2, by go_num, T6, K6⟩
      case measure => simp [intOf]; omega
    · have hme : m = xs.length := by omega
      have hfin : Hid ((z : Int) = 1 + (MG : Int)) := by
        show _ = _
        have h1 := hz.out
        have h2 := hend.out
        rw [hme, h2] at h1
        omega
      clear hz hR
      go_wp2
      go_ret
      exact ⟨by rw [← hfin.out]; rfl, hT.out⟩

set_option maxRecDepth 1000000 in
set_option maxHeartbeats 4000000 in
theorem markMhp_calls (x : MhpL) (a0 a1 a2 : Option Addr) (k0 k1 k2 : Nat) (w : World) (lo hi : Nat) (hlo : lo ≤ w.heap.size) (hh : hi ≤ w.heap.size) (g0 : ListAt MobR 3 true lo hi w (.slice a0 x.objs.length k0) x.objs) (g1 : ListAt IntR 1 true lo hi w (.slice a1 x.roots.length k1) x.roots) (g2 : ListAt IntR 1 true lo hi w (.slice a2 x.row_.length k2) x.row_) (hn : x.sz ≤ 1048576) :
    Calls Try.prog 19 #[.agg #[.slice a0 x.objs.length k0, .slice a1 x.roots.length k1, .bool x.cycle, .slice a2 x.row_.length k2], .int .i64 1] w fun e w' => (∃ r : Int, e = .returned (.int .i64 r) ∧ 0 ≤ r) ∧ Touch lo hi w w' := by
  have hs : marksM x.objs ≤ 4194304 ∧ x.roots.length ≤ 1048576 ∧ x.row_.length ≤ 1048576 ∧ x.roots.length + x.row_.length ≤ 1048576 := by
    unfold MhpL.sz sumL at hn
    unfold marksM
    omega
  obtain ⟨s0, s1, s2, s5⟩ := hs
  have c0 : Hid (∀ W, Below w.heap.size w W → Calls Try.prog 37 #[.slice a0 x.objs.length k0, .int .i64 1] W fun e w' => e = .returned (.int .i64 (1 + (marksM x.objs : Int))) ∧ Touch lo hi W w') := fun W hW => markMobS_calls _ x.objs W lo hi (Nat.le_trans hh hW.size) (g0.kept MobR.stable (Nat.le_refl _) (Nat.le_refl _) ((Same.below hW).mono (Nat.zero_le _) hh)) (by omega)
  have c1 : Hid (∀ (k : Int) W, 0 ≤ k → k ≤ 8388608 → Touch lo hi w W → Calls Try.prog 12 #[.slice a1 x.roots.length k1, .int .i64 k] W fun e w' => e = .returned (.int .i64 (k + (x.roots.length : Int))) ∧ Touch lo hi W w') := fun k W h0 h1 hW => markIntT_calls _ _ k W lo hi (Nat.le_trans hh hW.1) (g1.rowAt.touch hh hW) h0 h1 (by omega)
  have c2 : Hid (∀ (k : Int) W, 0 ≤ k → k ≤ 8388608 → Touch lo hi w W → Calls Try.prog 12 #[.slice a2 x.row_.length k2, .int .i64 k] W fun e w' => e = .returned (.int .i64 (k + (x.row_.length : Int))) ∧ Touch lo hi W w') := fun k W h0 h1 hW => markIntT_calls _ _ k W lo hi (Nat.le_trans hh hW.1) (g2.rowAt.touch hh hW) h0 h1 (by omega)
  generalize marksM x.objs = M0 at *
  generalize x.objs.length = m0 at *
  generalize x.roots.length = n1 at *
  generalize x.row_.length = n2 at *
  generalize x.cycle = cy at *
  have t0 : Hid (∀ W, Below w.heap.size w W → Touch lo hi w W) := fun W hW => Touch.below hW hlo
  have hhH : Hid (hi ≤ w.heap.size) := hh
  clear g0 g1 g2 hn
  go_enter Try.func19, Try.ntmps19
  go_upto_region 1 with fail
  have hb0 : Hid (Below w.heap.size w (w.alloc (.cells #[.slice a0 m0 k0, .slice a1 n1 k1, .bool cy, .slice a2 n2 k2] 44))) := below_1 _ _
  have r0 := rangeAt_heap (heap_alloc_new w (.cells #[.slice a0 m0 k0, .slice a1 n1 k1, .bool cy, .slice a2 n2 k2] 44))
  have hs0 : w.heap.size < (w.alloc (.cells #[.slice a0 m0 k0, .slice a1 n1 k1, .bool cy, .slice a2 n2 k2] 44)).heap.size := by simp
  generalize w.alloc (.cells #[.slice a0 m0 k0, .slice a1 n1 k1, .bool cy, .slice a2 n2 k2] 44) = W0 at hb0 r0 hs0 ⊢
  have hcl : Hid (∀ W, Touch lo hi W0 W → W.cell? ⟨w.heap.size, 0, none⟩ = some (.slice a0 m0 k0) ∧ W.cell? ⟨w.heap.size, 1, none⟩ = some (.slice a1 n1 k1) ∧ W.cell? ⟨w.heap.size, 3, none⟩ = some (.slice a2 n2 k2)) := fun W hW => by
    have c : ∀ j v, W0.cell? ⟨w.heap.size, j, none⟩ = some v → W.cell? ⟨w.heap.size, j, none⟩ = some v := fun j v h => ((hW.2.2 ⟨w.heap.size, j, none⟩ hs0).1 (.inr hhH.out)).trans h
    exact ⟨c _ _ (r0 0 _ rfl), c _ _ (r0 1 _ rfl), c _ _ (r0 3 _ rfl)⟩
  clear r0 hs0
  obtain ⟨j0, j1, j2⟩ := hcl.out W0 (Touch.refl _ _ _)
  go_wp2_with fail
  clear j0 j1 j2
  refine (show Calls _ _ _ _ _ from c0.out _ hb0.out).mono ?_
  rintro e w1 ⟨rfl, T1⟩
  have U1 : Hid (Touch lo hi W0 w1) := T1
  clear T1
  obtain ⟨j0, j1, j2⟩ := hcl.out w1 U1.out
  go_wp2_with fail
  clear j0 j1 j2
  refine (show Calls _ _ _ _ _ from c1.out _ _ (by omega) (by omega) ((t0.out _ hb0.out).trans U1.out)).mono ?_
  rintro e w2 ⟨rfl, T2⟩
  have U2 : Hid (Touch lo hi W0 w2) := U1.out.trans T2
  clear T2
  obtain ⟨j0, j1, j2⟩ := hcl.out w2 U2.out
  go_wp2_with fail
  clear j0 j1 j2
  refine (show Calls _ _ _ _ _ from c2.out _ _ (by omega) (by omega) ((t0.out _ hb0.out).trans U2.out)).mono ?_
  rintro e w3 ⟨rfl, T3⟩
  have U3 : Hid (Touch lo hi W0 w3) := U2.out.trans T3
  clear T3
  go_wp2
  go_ret
  exact ⟨⟨_, rfl, by omega⟩, (t0.out _ hb0.out).trans U3.out⟩
end Go.Proofs.Ytedpocgmfpaeeaa
