/- Two rows of numbers put together: slices.Grow, slices.Concat. -/
import Derived.Test.YtedpocgmfpaeeaaGpR
import Derived.Shelf.Spec.SlicesGrow
namespace Go.Proofs
open Go.Shelf
def Try.laysG4_ren : Go.Shelf.Ren := ⟨fun | 4 => 41 | n => n, fun | 0 => 0 | 3 => 3 | 4 => 4 | 9 => 9 | 20 => 20 | 22 => 23 | 25 => 2 | n => n, fun | n => n⟩
theorem Try.laysG4 : Go.Proofs.Lays8.n4 Try.prog Try.laysG4_ren := {
  mixed := by kernel_rfl
  f4 := ⟨"slices.Grow[[]int64,int64]", by decide, Try.func41.trans (congrArg some (by kernel_rfl))⟩
  t0 := Try.underlying0
  a0 := Try.isAgg0
  z0 := Try.sizeOf0
  v0 := Try.zeroValue0
  t3 := Try.underlying3
  a3 := Try.isAgg3
  z3 := Try.sizeOf3
  v3 := Try.zeroValue3
  t4 := Try.underlying4
  a4 := Try.isAgg4
  z4 := Try.sizeOf4
  v4 := Try.zeroValue4
  t9 := Try.underlying9
  a9 := Try.isAgg9
  z9 := Try.sizeOf9
  v9 := Try.zeroValue9
  t20 := Try.underlying20
  a20 := Try.isAgg20
  z20 := Try.sizeOf20
  v20 := Try.zeroValue20
  t22 := Try.underlying23
  a22 := Try.isAgg23
  z22 := Try.sizeOf23
  v22 := Try.zeroValue23 }
end Go.Proofs
namespace Go.Proofs.Ytedpocgmfpaeeaa
set_option linter.unusedVariables false
open Go.ChangeShapes Go.WideShapes Go.ChangeAt Go.RowKit
theorem int_info : ∃ i0 : TypeInfo, Try.prog.info? 2 = some i0 ∧ i0.zero = some (.int .i64 0) ∧ i0.size = 1 ∧ i0.bytes = 8 := info_parts (show (Try.prog.info? 2).map (fun i => (i.zero, i.size, i.bytes)) = some (some (.int .i64 0), 1, 8) by kernel_rfl)
theorem grow_calls (n : Nat) (w : World) (hn2 : n ≤ 1073741824) : Calls Try.prog 41 #[.slice none 0 0, .int .i64 n] w fun e w' => ∃ v, e = .returned v ∧ OutAt w.heap.size w' v [] ∧ Below w.heap.size w w' := by
  by_cases hn : n = 0
  · subst hn
    refine (Any8.slices_Grow_room Try.laysG4 none 0 0 0 w (by omega) (by omega) (by omega) (by omega)).mono ?_
    rintro e w' ⟨rfl, rfl⟩
    exact ⟨_, rfl, ⟨rfl, .inl ⟨rfl, rfl⟩⟩, Below.refl _ _⟩
  obtain ⟨i0, hi, hz0, hz1, hz2⟩ := int_info
  refine (Any8.slices_Grow_grow Try.laysG4 i0 (.int .i64 0) hi hz0 (by rw [hz1]; decide) none 0 0 n [] w (by omega) (by omega) (by rw [hz2]; omega) (by omega) (by simp) (fun _ => rfl) (fun a h => by cases h)).mono ?_
  rintro e w' ⟨rfl, rfl⟩
  have h1 := grownCap_ge w (0 + n) 0 2
  have h2 := grownCap_le_maxLen w (0 + n) 0 2 (by unfold maxLen; omega)
  refine ⟨_, rfl, ⟨rfl, .inr ⟨w.heap.size, grownCap w (0 + n) 0 2, _, rfl, Nat.le_refl _, heap_alloc_new w.drew _, Nat.zero_le _, h2, ?_, ?_⟩⟩, (Below.refl _ _).drew.alloc (Nat.le_refl _) _⟩
  · have hz : (Value.int .i64 0).cells.size = 1 := rfl
    show (#[] ++ _ ++ _ : Array Value).size = grownCap w (0 + n) 0 2 * 1
    rw [Array.size_append, Array.size_append, size_zeroCells, size_zeroCells, hz]
    show 0 + (0 + n - 0) * 1 + (grownCap w (0 + n) 0 2 - (0 + n)) * 1 = grownCap w (0 + n) 0 2 * 1
    omega
  · simp [intsV]

set_option maxRecDepth 1000000 in
set_option maxHeartbeats 4000000 in
theorem concat2_calls (p : Nat) (a0 a1 : Option Addr) (n0 n1 c0 c1 : Nat) (xs ys : List Int) (w : World) (hx : n0 = xs.length) (hy : n1 = ys.length) (hp0 : w.cell? ⟨p, 0, none⟩ = some (.slice a0 n0 c0)) (hp1 : w.cell? ⟨p, 1, none⟩ = some (.slice a1 n1 c1)) (hn0 : n0 ≤ 1048576) (hn1 : n1 ≤ 1048576)
    (hs0 : ∀ W, Below w.heap.size w W → SrcAt W 1 (.slice a0 n0 c0) n0 (intsV xs)) (hs1 : ∀ W, Below w.heap.size w W → SrcAt W 1 (.slice a1 n1 c1) n1 (intsV ys)) :
    Calls Try.prog 27 #[.slice (some ⟨p, 0, none⟩) 2 2] w fun e w' => ∃ v, e = .returned v ∧ OutAt w.heap.size w' v (xs ++ ys) ∧ Below w.heap.size w w' := by
  have hs0H : Hid (∀ W, Below w.heap.size w W → SrcAt W 1 (.slice a0 n0 c0) n0 (intsV xs)) := hs0
  have hs1H : Hid (∀ W, Below w.heap.size w W → SrcAt W 1 (.slice a1 n1 c1) n1 (intsV ys)) := hs1
  have hxH : Hid (n0 = xs.length) := hx
  have hyH : Hid (n1 = ys.length) := hy
  obtain ⟨i9, hi9, hz9, hs9, hb9⟩ := int_info
  have hpl : Hid (p < w.heap.size) := block_lt_of_cell hp0
  clear hs0 hs1 hx hy
  have k0 : ¬ (n0 : Int) < 0 := by omega
  have k1 : ¬ ((n0 + n1 : Nat) : Int) < 0 := by omega
  have hn0' : (n0 : Int) ≤ 1048576 := by omega
  have hn1' : (n1 : Int) ≤ 1048576 := by omega
  have k2 : ¬ (n0 : Int) + (n1 : Int) < 0 := by omega
  go_enter Try.func27, Try.ntmps27
  go_wp2
  go_loopw [3, 11] (fun sv iv wr => wr = w ∧ ((sv = .int .i64 0 ∧ iv = .int .i64 0) ∨ (sv = .int .i64 n0 ∧ iv = .int .i64 1) ∨ (sv = .int .i64 ((n0 + n1 : Nat) : Int) ∧ iv = .int .i64 2))) (fun _ iv _ => 2 - (intOf iv).toNat)
  case atStart => exact ⟨rfl, .inl ⟨rfl, rfl⟩⟩
  case round =>
    obtain ⟨hw, ⟨rfl, rfl⟩ | ⟨rfl, rfl⟩ | ⟨rfl, rfl⟩⟩ := hrel
    · have hw2 := hw.symm
      subst hw2
      go_wp2
      go_roundw
      case rel => exact ⟨by first | trivial | rfl, .inr (.inl ⟨by go_num, by go_num⟩)⟩
      case measure => simp [intOf]
    · have hw2 := hw.symm
      subst hw2
      go_wp2
      go_roundw
      case rel => exact ⟨by first | trivial | rfl, .inr (.inr ⟨by go_num, by go_num⟩)⟩
      case measure => simp [intOf]
    · have hw2 := hw.symm
      subst hw2
      have hp0H : Hid (w.cell? ⟨p, 0, none⟩ = some (.slice a0 n0 c0)) := hp0
      have hp1H : Hid (w.cell? ⟨p, 1, none⟩ = some (.slice a1 n1 c1)) := hp1
      go_wp2_with (go_at_call 41; refine (grow_calls (n0 + n1) _ (by omega)).mono ?_; rintro e W2 ⟨v2, rfl, hv2, hb2⟩; have hv2H : Hid (OutAt w.heap.size W2 v2 []) := hv2; have hb2H : Hid (Below w.heap.size w W2) := hb2; clear hv2 hb2)
      clear hp0 hp1 hw
      go_loopw [6, 27] (fun v iv wr => ((iv = .int .i64 0 ∧ Hid (OutAt w.heap.size wr v [])) ∨ (iv = .int .i64 1 ∧ Hid (OutAt w.heap.size wr v xs)) ∨ (iv = .int .i64 2 ∧ Hid (OutAt w.heap.size wr v (xs ++ ys)))) ∧ Hid (Below w.heap.size w wr)) (fun _ iv _ => 2 - (intOf iv).toNat)
      case atStart => exact ⟨.inl ⟨rfl, hv2H⟩, hb2H⟩
      case round =>
        obtain ⟨⟨rfl, hv⟩ | ⟨rfl, hv⟩ | ⟨rfl, hv⟩, hb⟩ := hrel
        · have q0 : wr.cell? ⟨p, 0, none⟩ = some (.slice a0 n0 c0) := (hb.out.cell (p := ⟨p, 0, none⟩) hpl.out).trans hp0H.out
          have hsW : Hid (SrcAt wr 1 (.slice a0 n0 c0) n0 (intsV xs)) := hs0H.out wr hb.out
          obtain ⟨ra, rc, rfl⟩ := own_slice hv.out
          go_wp2_with (refine wpList_append_src rfl (.tmp 31) (.tmp 32) 23 rfl w.heap.size 2 i9 (.int .i64 0) 1 8 Try.underlying23 hi9 hz9 hs9 hb9 rfl (by omega) _ 0 [] rfl hv.out _ _ _ rfl hsW.out (intsV_one _) (by unfold maxLen; omega) (by omega) hb.out.size (fun v' w2 hown2 hgrow2 hat2 => ?_))
          have hv3 : Hid (OutAt w.heap.size w2 v' xs) := by have := hown2; rw [Nat.zero_add, hxH.out] at this; exact this
          have hb3 : Hid (Below w.heap.size w w2) := hb.out.grown hgrow2 hb.out.size (fun k hk => (World.ownsRow.lt hv.out k hk).1)
          clear hown2 hgrow2 hat2 hv hb q0 hsW
          go_roundw
          case rel => exact ⟨.inr (.inl ⟨by go_num, hv3⟩), hb3⟩
          case measure => simp [intOf]
        · have q1 : wr.cell? ⟨p, 1, none⟩ = some (.slice a1 n1 c1) := (hb.out.cell (p := ⟨p, 1, none⟩) hpl.out).trans hp1H.out
          have hsW : Hid (SrcAt wr 1 (.slice a1 n1 c1) n1 (intsV ys)) := hs1H.out wr hb.out
          obtain ⟨ra, rc, rfl⟩ := own_slice hv.out
          have hxl : Hid (xs.length ≤ 1048576) := by have := hxH.out; show _ ≤ _; omega
          go_wp2_with (refine wpList_append_src rfl (.tmp 31) (.tmp 32) 23 rfl w.heap.size 2 i9 (.int .i64 0) 1 8 Try.underlying23 hi9 hz9 hs9 hb9 rfl (by omega) _ xs.length (intsV xs) rfl hv.out _ _ _ rfl hsW.out (intsV_one _) (by have := hxl.out; unfold maxLen; omega) (by have := hxl.out; omega) hb.out.size (fun v' w2 hown2 hgrow2 hat2 => ?_))
          have hv3 : Hid (OutAt w.heap.size w2 v' (xs ++ ys)) := by
            have := hown2
            rw [hyH.out, ← intsV_append] at this
            show World.ownsRow _ _ _ _ _ _ _
            rw [List.length_append]
            exact this
          have hb3 : Hid (Below w.heap.size w w2) := hb.out.grown hgrow2 hb.out.size (fun k hk => (World.ownsRow.lt hv.out k hk).1)
          clear hown2 hgrow2 hat2 hv hb q1 hsW
          go_roundw
          case rel => exact ⟨.inr (.inr ⟨by go_num, hv3⟩), hb3⟩
          case measure => simp [intOf]
        · go_wp2
          go_ret
          exact ⟨_, rfl, hv.out, hb.out⟩
end Go.Proofs.Ytedpocgmfpaeeaa
