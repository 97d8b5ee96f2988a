/- Heaps of the marker compared. -/
import Derived.Test.YtedpocgmfpaeeaaMlA
import Derived.Test.YtedpocgmfpaeeaaGlB
namespace Go.Proofs.Ytedpocgmfpaeeaa
set_option linter.unusedVariables false
open Go.ChangeShapes Go.WideShapes Go.ChangeAt Go.RowKit

set_option maxRecDepth 1000000 in
set_option maxHeartbeats 4000000 in
theorem eqMob_calls (x : MobL) (hy : x.small) : ElemEq 47 3 MobR x := by
  intro w r1 r2 lo1 hi1 lo2 hi2 h1 h2 hx1 hx2 hl1 hl2
  obtain ⟨v1_1, rfl, g1_1⟩ := hx1
  obtain ⟨v2_1, rfl, g2_1⟩ := hx2
  have c1 : Hid (∀ W, Below w.heap.size w W → Calls Try.prog 9 #[v1_1, v2_1] W fun e w' => e = .returned (.bool true) ∧ Below W.heap.size W w') := fun W hW =>
    eqIntL_calls v1_1 v2_1 x.flds W lo1 hi1 lo2 hi2 (Nat.le_trans h1 hW.size) (Nat.le_trans h2 hW.size) (g1_1.kept IntR.stable (Nat.le_refl _) (Nat.le_refl _) ((Same.below hW).mono (Nat.zero_le _) h1)) (g2_1.kept IntR.stable (Nat.le_refl _) (Nat.le_refl _) ((Same.below hW).mono (Nat.zero_le _) h2)) hy
  obtain ⟨a1_1, k1_1, rfl⟩ := g1_1.form
  obtain ⟨a2_1, k2_1, rfl⟩ := g2_1.form
  have b0 : (x.id != x.id) = false := by simp
  have b2 : (x.colour != x.colour) = false := by simp
  clear hl1 hl2 h1 h2 g1_1 g2_1
  go_enter Try.func47, Try.ntmps47
  go_wp2_with fail
  obtain ⟨W0, hW0⟩ : ∃ W : World, W = (w.alloc (.cells #[.int .i64 x.id, .slice a1_1 x.flds.length k1_1, .int .i64 x.colour] 69)).alloc (.cells #[.int .i64 x.id, .slice a2_1 x.flds.length k2_1, .int .i64 x.colour] 69) := ⟨_, rfl⟩
  rw [← hW0]
  have r0 : Hid (Rec2 w W0 [.int .i64 x.id, .slice a1_1 x.flds.length k1_1, .int .i64 x.colour] [.int .i64 x.id, .slice a2_1 x.flds.length k2_1, .int .i64 x.colour]) := Rec2.start hW0
  clear hW0
  refine (c1.out W0 r0.out.hb).mono ?_
  rintro e w1 ⟨rfl, hb1⟩
  have r1 : Hid (Rec2 w w1 [.int .i64 x.id, .slice a1_1 x.flds.length k1_1, .int .i64 x.colour] [.int .i64 x.id, .slice a2_1 x.flds.length k2_1, .int .i64 x.colour]) := r0.out.call hb1
  have y1_2 := r1.out.cell1 2 _ rfl
  have z1_2 := r1.out.cell2 2 _ rfl
  clear hb1
  go_wp2
  go_ret
  exact ⟨rfl, r1.out.hb⟩

set_option maxRecDepth 1000000 in
set_option maxHeartbeats 1000000 in
theorem eqMobS_calls (u v : Value) (xs : List MobL) (w : World) (lo1 hi1 lo2 hi2 : Nat) (h1 : hi1 ≤ w.heap.size) (h2 : hi2 ≤ w.heap.size) (hu : ListAt MobR 3 true lo1 hi1 w u xs) (hv : ListAt MobR 3 true lo2 hi2 w v xs) (hn : xs.length ≤ 1048576) (hel : ∀ x ∈ xs, ElemEq 47 3 MobR x) :
    Calls Try.prog 36 #[u, v] w fun e w' => e = .returned (.bool true) ∧ Below w.heap.size w w' := by
  obtain ⟨a, c, rfl⟩ := hu.form
  obtain ⟨a2, c2, rfl⟩ := hv.form
  have helH : Hid (∀ x ∈ xs, ElemEq 47 3 MobR x) := hel
  have huH : Hid (∀ wr, Below w.heap.size w wr → ListAt MobR 3 true lo1 hi1 wr (.slice a xs.length c) xs) := fun wr hw => hu.kept MobR.stable (Nat.le_refl _) (Nat.le_refl _) ((Same.below hw).mono (Nat.zero_le _) h1)
  have hvH : Hid (∀ wr, Below w.heap.size w wr → ListAt MobR 3 true lo2 hi2 wr (.slice a2 xs.length c2) xs) := fun wr hw => hv.kept MobR.stable (Nat.le_refl _) (Nat.le_refl _) ((Same.below hw).mono (Nat.zero_le _) h2)
  have hhH : Hid (hi1 ≤ w.heap.size ∧ hi2 ≤ w.heap.size) := ⟨h1, h2⟩
  clear hu hv hel h1 h2
  go_enter Try.func36, Try.ntmps36
  go_wp2
  go_loopw [5] (fun i wr => ∃ m : Nat, m ≤ xs.length ∧ i = .int .i64 m ∧ Hid (Below w.heap.size w wr)) (fun i _ => xs.length - (intOf i).toNat)
  case atStart => exact ⟨0, Nat.zero_le _, rfl, Below.refl _ _⟩
  case round =>
    obtain ⟨m, hm, rfl, hB⟩ := hrel
    by_cases hlt : m < xs.length
    · obtain ⟨b, off, r1, rfl, hb1, hl1, hr1, hx1⟩ := (huH.out wr hB.out).at m hlt
      obtain ⟨b', off', r2, rfl, hb2, hl2, hr2, hx2⟩ := (hvH.out wr hB.out).at m hlt
      have hlt' : (m : Int) < (xs.length : Int) := by omega
      have hsz := hB.out.size
      have hcH : Hid (∀ W, Below wr.heap.size wr W → Calls Try.prog 47 #[.agg r1.toArray, .agg r2.toArray] W fun e w' => e = .returned (.bool true) ∧ Below W.heap.size W w') := fun W hW =>
        helH.out xs[m] (List.getElem_mem hlt) W r1 r2 lo1 hi1 lo2 hi2 (by have := hW.size; have := hhH.out.1; omega) (by have := hW.size; have := hhH.out.2; omega)
          (MobR.stable _ _ _ _ _ _ _ _ _ hx1 (Nat.le_refl _) (Nat.le_refl _) ((Same.below hW).mono (Nat.zero_le _) (by have := hhH.out.1; omega)))
          (MobR.stable _ _ _ _ _ _ _ _ _ hx2 (Nat.le_refl _) (Nat.le_refl _) ((Same.below hW).mono (Nat.zero_le _) (by have := hhH.out.2; omega))) hl1 hl2
      obtain ⟨x, hx⟩ : ∃ x, x = xs[m] := ⟨_, rfl⟩
      rw [← hx] at hx1 hx2
      obtain ⟨p1, rfl, -⟩ := hx1
      obtain ⟨p2, rfl, -⟩ := hx2
      have hmk : Hid (∀ W, Below wr.heap.size wr W → (Below wr.heap.size wr W ∧ W.cell? ⟨b, off + m * 3, none⟩ = some (.int .i64 x.id) ∧ W.cell? ⟨b, off + m * 3 + 1, none⟩ = some (p1) ∧ W.cell? ⟨b, off + m * 3 + 2, none⟩ = some (.int .i64 x.colour) ∧ W.cell? ⟨b', off' + m * 3, none⟩ = some (.int .i64 x.id) ∧ W.cell? ⟨b', off' + m * 3 + 1, none⟩ = some (p2) ∧ W.cell? ⟨b', off' + m * 3 + 2, none⟩ = some (.int .i64 x.colour))) := fun W hW => by
        have kp1 := rangeAt_same (Same.below hW) (Nat.zero_le _) (show b < wr.heap.size by have := hhH.out.1; omega) hr1
        have kp2 := rangeAt_same (Same.below hW) (Nat.zero_le _) (show b' < wr.heap.size by have := hhH.out.2; omega) hr2
        exact ⟨hW, kp1 0 _ rfl, kp1 1 _ rfl, kp1 2 _ rfl, kp2 0 _ rfl, kp2 1 _ rfl, kp2 2 _ rfl⟩
      clear hr1 hr2 hl1 hl2 hsz hb1 hb2 hx
      have hS0 := hmk.out wr (Below.refl _ _)
      go_wp2
      go_region_held3 (fun W => Below wr.heap.size wr W ∧ W.cell? ⟨b, off + m * 3, none⟩ = some (.int .i64 x.id) ∧ W.cell? ⟨b, off + m * 3 + 1, none⟩ = some (p1) ∧ W.cell? ⟨b, off + m * 3 + 2, none⟩ = some (.int .i64 x.colour) ∧ W.cell? ⟨b', off' + m * 3, none⟩ = some (.int .i64 x.id) ∧ W.cell? ⟨b', off' + m * 3 + 1, none⟩ = some (p2) ∧ W.cell? ⟨b', off' + m * 3 + 2, none⟩ = some (.int .i64 x.colour)) (first | assumption | exact hmk.out _ (Below.drew (And.left (by assumption))) | exact hmk.out _ (below_on (And.left (by assumption)) (by assumption))) (first | (go_at_call 47; refine (hcH.out _ (by first | exact Below.refl _ _ | assumption | exact And.left (by assumption))).mono ?_; rintro e w2 ⟨rfl, hb2⟩))
      go_wp2
      go_roundw
      case rel => exact ⟨m + 1, by omega, by go_num, below_on hB.out (by first | assumption | exact And.left (by assumption))⟩
      case measure => simp [intOf]; omega
    · go_wp2
      go_ret
      exact ⟨rfl, hB.out⟩

set_option maxRecDepth 1000000 in
set_option maxHeartbeats 4000000 in
theorem eqMhp_calls (x : MhpL) (hy : x.small) : ElemEq 18 4 MhpR x := by
  intro w r1 r2 lo1 hi1 lo2 hi2 h1 h2 hx1 hx2 hl1 hl2
  obtain ⟨v1_0, v1_1, v1_3, rfl, g1_0, g1_1, g1_3⟩ := hx1
  obtain ⟨v2_0, v2_1, v2_3, rfl, g2_0, g2_1, g2_3⟩ := hx2
  have c0 : Hid (∀ W, Below w.heap.size w W → Calls Try.prog 36 #[v1_0, v2_0] W fun e w' => e = .returned (.bool true) ∧ Below W.heap.size W w') := fun W hW =>
    eqMobS_calls v1_0 v2_0 x.objs W lo1 hi1 lo2 hi2 (Nat.le_trans h1 hW.size) (Nat.le_trans h2 hW.size) (g1_0.kept MobR.stable (Nat.le_refl _) (Nat.le_refl _) ((Same.below hW).mono (Nat.zero_le _) h1)) (g2_0.kept MobR.stable (Nat.le_refl _) (Nat.le_refl _) ((Same.below hW).mono (Nat.zero_le _) h2)) hy.1 (fun z hz => eqMob_calls z (hy.2.2.2 z hz))
  have c1 : Hid (∀ W, Below w.heap.size w W → Calls Try.prog 9 #[v1_1, v2_1] W fun e w' => e = .returned (.bool true) ∧ Below W.heap.size W w') := fun W hW =>
    eqIntL_calls v1_1 v2_1 x.roots W lo1 hi1 lo2 hi2 (Nat.le_trans h1 hW.size) (Nat.le_trans h2 hW.size) (g1_1.kept IntR.stable (Nat.le_refl _) (Nat.le_refl _) ((Same.below hW).mono (Nat.zero_le _) h1)) (g2_1.kept IntR.stable (Nat.le_refl _) (Nat.le_refl _) ((Same.below hW).mono (Nat.zero_le _) h2)) hy.2.1
  have c3 : Hid (∀ W, Below w.heap.size w W → Calls Try.prog 9 #[v1_3, v2_3] W fun e w' => e = .returned (.bool true) ∧ Below W.heap.size W w') := fun W hW =>
    eqIntL_calls v1_3 v2_3 x.row_ W lo1 hi1 lo2 hi2 (Nat.le_trans h1 hW.size) (Nat.le_trans h2 hW.size) (g1_3.kept IntR.stable (Nat.le_refl _) (Nat.le_refl _) ((Same.below hW).mono (Nat.zero_le _) h1)) (g2_3.kept IntR.stable (Nat.le_refl _) (Nat.le_refl _) ((Same.below hW).mono (Nat.zero_le _) h2)) hy.2.2.1
  obtain ⟨a1_0, k1_0, rfl⟩ := g1_0.form
  obtain ⟨a2_0, k2_0, rfl⟩ := g2_0.form
  obtain ⟨a1_1, k1_1, rfl⟩ := g1_1.form
  obtain ⟨a2_1, k2_1, rfl⟩ := g2_1.form
  obtain ⟨a1_3, k1_3, rfl⟩ := g1_3.form
  obtain ⟨a2_3, k2_3, rfl⟩ := g2_3.form
  have b2 : (x.cycle != x.cycle) = false := by simp
  clear hl1 hl2 h1 h2 g1_0 g2_0 g1_1 g2_1 g1_3 g2_3
  go_enter Try.func18, Try.ntmps18
  go_wp2_with fail
  obtain ⟨W0, hW0⟩ : ∃ W : World, W = (w.alloc (.cells #[.slice a1_0 x.objs.length k1_0, .slice a1_1 x.roots.length k1_1, .bool x.cycle, .slice a1_3 x.row_.length k1_3] 44)).alloc (.cells #[.slice a2_0 x.objs.length k2_0, .slice a2_1 x.roots.length k2_1, .bool x.cycle, .slice a2_3 x.row_.length k2_3] 44) := ⟨_, rfl⟩
  rw [← hW0]
  have r0 : Hid (Rec2 w W0 [.slice a1_0 x.objs.length k1_0, .slice a1_1 x.roots.length k1_1, .bool x.cycle, .slice a1_3 x.row_.length k1_3] [.slice a2_0 x.objs.length k2_0, .slice a2_1 x.roots.length k2_1, .bool x.cycle, .slice a2_3 x.row_.length k2_3]) := Rec2.start hW0
  clear hW0
  refine (c0.out W0 r0.out.hb).mono ?_
  rintro e w1 ⟨rfl, hb1⟩
  have r1 : Hid (Rec2 w w1 [.slice a1_0 x.objs.length k1_0, .slice a1_1 x.roots.length k1_1, .bool x.cycle, .slice a1_3 x.row_.length k1_3] [.slice a2_0 x.objs.length k2_0, .slice a2_1 x.roots.length k2_1, .bool x.cycle, .slice a2_3 x.row_.length k2_3]) := r0.out.call hb1
  have y1_1 := r1.out.cell1 1 _ rfl
  have z1_1 := r1.out.cell2 1 _ rfl
  have y1_2 := r1.out.cell1 2 _ rfl
  have z1_2 := r1.out.cell2 2 _ rfl
  have y1_3 := r1.out.cell1 3 _ rfl
  have z1_3 := r1.out.cell2 3 _ rfl
  clear hb1
  go_wp2_with fail
  clear y1_1 z1_1
  clear y1_2 z1_2
  clear y1_3 z1_3
  refine (c1.out w1 r1.out.hb).mono ?_
  rintro e w2 ⟨rfl, hb2⟩
  have r2 : Hid (Rec2 w w2 [.slice a1_0 x.objs.length k1_0, .slice a1_1 x.roots.length k1_1, .bool x.cycle, .slice a1_3 x.row_.length k1_3] [.slice a2_0 x.objs.length k2_0, .slice a2_1 x.roots.length k2_1, .bool x.cycle, .slice a2_3 x.row_.length k2_3]) := r1.out.call hb2
  have y2_2 := r2.out.cell1 2 _ rfl
  have z2_2 := r2.out.cell2 2 _ rfl
  have y2_3 := r2.out.cell1 3 _ rfl
  have z2_3 := r2.out.cell2 3 _ rfl
  clear hb2
  go_wp2_with fail
  clear y2_2 z2_2
  clear y2_3 z2_3
  refine (c3.out w2 r2.out.hb).mono ?_
  rintro e w3 ⟨rfl, hb3⟩
  have r3 : Hid (Rec2 w w3 [.slice a1_0 x.objs.length k1_0, .slice a1_1 x.roots.length k1_1, .bool x.cycle, .slice a1_3 x.row_.length k1_3] [.slice a2_0 x.objs.length k2_0, .slice a2_1 x.roots.length k2_1, .bool x.cycle, .slice a2_3 x.row_.length k2_3]) := r2.out.call hb3
  clear hb3
  go_wp2
  go_ret
  exact ⟨rfl, r3.out.hb⟩
end Go.Proofs.Ytedpocgmfpaeeaa
