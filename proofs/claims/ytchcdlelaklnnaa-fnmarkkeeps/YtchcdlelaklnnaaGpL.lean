/- Which fields lead on: GcObject.leads. -/
import Derived.Test.YtchcdlelaklnnaaKsJ
import Derived.Test.YtchcdlelaklnnaaGpP
namespace Go.Proofs.Ytchcdlelaklnnaa
set_option linter.unusedVariables false
open Go.ChangeShapes Go.WideShapes Go.ChangeAt Go.RowKit
/-- One new variable among reads. -/
def alR (W0 : World) (c n : Nat) : Nat → (Nat → Value) → World → Prop
  | 0, _, W => Below W0.heap.size W0 W
  | _, vs, W => Below W0.heap.size W0 W ∧ ∃ b, vs c = .pointer (some ⟨b, 0, none⟩) ∧ W.there b 0 n ∧ W0.heap.size ≤ b ∧ b < W.heap.size
theorem alR_below {W0 : World} {c n k : Nat} {vs : Nat → Value} {W : World} (h : alR W0 c n k vs W) : Below W0.heap.size W0 W := by
  match k, h with
  | 0, h => exact h
  | _ + 1, h => exact h.1
theorem alR_loc (W0 : World) (c n : Nat) : ∀ k vs i v w, i ∉ [c] → alR W0 c n k vs w → alR W0 c n k (upd vs i v) w := by
  intro k vs i v w hi h
  have e : upd vs i v c = vs c := by
    unfold upd
    rw [if_neg]
    intro q; exact hi (by simp [q])
  match k, h with
  | 0, h => exact h
  | _ + 1, h =>
    show _ ∧ ∃ b, upd vs i v c = _ ∧ _
    rw [e]; exact h

set_option maxRecDepth 100000 in
theorem leads1z (w : World) (b0 i fb n fc : Nat) (h3 : w.cell? ⟨b0, i * 5 + 3, none⟩ = some (.int .i64 1)) (h4 : w.cell? ⟨b0, i * 5 + 4, none⟩ = some (.slice (some ⟨fb, 0, none⟩) 0 0)) (hb : b0 < w.heap.size)  : Calls Try.prog 61 #[.pointer (some ⟨b0, i * 5, none⟩), .bool true] w fun e w' => e = .returned (.slice (some ⟨fb, 0, none⟩) 0 0) ∧ Below w.heap.size w w' := by
  have hcell : Hid (∀ W, Below w.heap.size w W → W.cell? ⟨b0, i * 5 + 4, none⟩ = some (.slice (some ⟨fb, 0, none⟩) 0 0)) := fun W hB => (hB.cell (p := ⟨b0, i * 5 + 4, none⟩) hb).trans h4
  go_enter Try.func61, Try.ntmps61
  go_upto_region 2 with fail
  refine wp_region_chain (by kernel_rfl) (fun vs => { tmps := #[.pointer (some ⟨b0, i * 5, none⟩), .bool true, undef, undef, vs 11, .pointer (some ⟨b0, i * 5, none⟩), .pointer (some ⟨b0, i * 5, none⟩), .pointer (some ⟨b0, i * 5 + 3, none⟩), .int .i64 1, .bool true, .bool true, undef, undef, undef, undef, undef, .bool true, .bool true, undef, undef, undef, undef, undef, undef, undef, undef, .bool true, vs 0, vs 1, vs 2, vs 3, vs 4, vs 5, vs 6, vs 7, vs 8, vs 9, vs 10, undef, undef, undef, undef], defers := [] }) [] (lv1 [.pointer (some ⟨b0, i * 5, none⟩), .pointer (some ⟨b0, i * 5, none⟩), .pointer (some ⟨b0, i * 5 + 4, none⟩), .slice (some ⟨fb, 0, none⟩) 0 0, .pointer (some ⟨b0, i * 5, none⟩), .pointer (some ⟨b0, i * 5, none⟩), .pointer (some ⟨b0, i * 5 + 4, none⟩), .slice (some ⟨fb, 0, none⟩) 0 0, .int .i64 0, .int .i64 0, .slice (some ⟨fb, 0, none⟩) 0 0]) (fun _ _ W => Below w.heap.size w W) (fun i => if i = 11 then .slice none 0 0 else undef) rfl (by kernel_rfl) ?_ (fun _ _ _ _ _ _ h => h) (allAt_all ⟨?_, ?_, ?_, ?_, ?_, ?_, ?_, ?_, ?_, ?_, ?_, ?_, trivial⟩) ?_ ?_
  case refine_1 => exact Below.drew (Below.refl _ _)
  case refine_2 =>
    intro _ _ kk vs W hB hv
    clear hv
    go_wp2
    exact PurePost.mk' (.pointer (some ⟨b0, i * 5, none⟩)) (by rfl) rfl
  case refine_3 =>
    intro _ _ kk vs W hB hv
    have e0 : vs 0 = .pointer (some ⟨b0, i * 5, none⟩) := hv ⟨0, .data⟩ (by simp) rfl (by decide)
    clear hv
    simp only [e0]
    go_wp2
    exact PurePost.mk' (.pointer (some ⟨b0, i * 5, none⟩)) (by show _ = ({ tmps := #[.pointer (some ⟨b0, i * 5, none⟩), .bool true, undef, undef, vs 11, .pointer (some ⟨b0, i * 5, none⟩), .pointer (some ⟨b0, i * 5, none⟩), .pointer (some ⟨b0, i * 5 + 3, none⟩), .int .i64 1, .bool true, .bool true, undef, undef, undef, undef, undef, .bool true, .bool true, undef, undef, undef, undef, undef, undef, undef, undef, .bool true, vs 0, .pointer (some ⟨b0, i * 5, none⟩), vs 2, vs 3, vs 4, vs 5, vs 6, vs 7, vs 8, vs 9, vs 10, undef, undef, undef, undef], defers := [] } : Act); rw [e0]) rfl
  case refine_4 =>
    intro _ _ kk vs W hB hv
    have e1 : vs 1 = .pointer (some ⟨b0, i * 5, none⟩) := hv ⟨1, .data⟩ (by simp) rfl (by decide)
    clear hv
    simp only [e1]
    go_wp2
    exact PurePost.mk' (.pointer (some ⟨b0, i * 5 + 4, none⟩)) (by show _ = ({ tmps := #[.pointer (some ⟨b0, i * 5, none⟩), .bool true, undef, undef, vs 11, .pointer (some ⟨b0, i * 5, none⟩), .pointer (some ⟨b0, i * 5, none⟩), .pointer (some ⟨b0, i * 5 + 3, none⟩), .int .i64 1, .bool true, .bool true, undef, undef, undef, undef, undef, .bool true, .bool true, undef, undef, undef, undef, undef, undef, undef, undef, .bool true, vs 0, vs 1, .pointer (some ⟨b0, i * 5 + 4, none⟩), vs 3, vs 4, vs 5, vs 6, vs 7, vs 8, vs 9, vs 10, undef, undef, undef, undef], defers := [] } : Act); rw [e1]) rfl
  case refine_5 =>
    intro _ _ kk vs W hB hv
    have e2 : vs 2 = .pointer (some ⟨b0, i * 5 + 4, none⟩) := hv ⟨2, .data⟩ (by simp) rfl (by decide)
    have u4 := hcell.out W hB
    clear hv
    simp only [e2]
    go_wp2
    exact PurePost.mk' (.slice (some ⟨fb, 0, none⟩) 0 0) (by first | (rw [← e2]; rfl) | (simp [upd, e2])) rfl
  case refine_6 =>
    intro _ _ kk vs W hB hv
    clear hv
    go_wp2
    exact PurePost.mk' (.pointer (some ⟨b0, i * 5, none⟩)) (by rfl) rfl
  case refine_7 =>
    intro _ _ kk vs W hB hv
    have e4 : vs 4 = .pointer (some ⟨b0, i * 5, none⟩) := hv ⟨4, .data⟩ (by simp) rfl (by decide)
    clear hv
    simp only [e4]
    go_wp2
    exact PurePost.mk' (.pointer (some ⟨b0, i * 5, none⟩)) (by show _ = ({ tmps := #[.pointer (some ⟨b0, i * 5, none⟩), .bool true, undef, undef, vs 11, .pointer (some ⟨b0, i * 5, none⟩), .pointer (some ⟨b0, i * 5, none⟩), .pointer (some ⟨b0, i * 5 + 3, none⟩), .int .i64 1, .bool true, .bool true, undef, undef, undef, undef, undef, .bool true, .bool true, undef, undef, undef, undef, undef, undef, undef, undef, .bool true, vs 0, vs 1, vs 2, vs 3, vs 4, .pointer (some ⟨b0, i * 5, none⟩), vs 6, vs 7, vs 8, vs 9, vs 10, undef, undef, undef, undef], defers := [] } : Act); rw [e4]) rfl
  case refine_8 =>
    intro _ _ kk vs W hB hv
    have e5 : vs 5 = .pointer (some ⟨b0, i * 5, none⟩) := hv ⟨5, .data⟩ (by simp) rfl (by decide)
    clear hv
    simp only [e5]
    go_wp2
    exact PurePost.mk' (.pointer (some ⟨b0, i * 5 + 4, none⟩)) (by show _ = ({ tmps := #[.pointer (some ⟨b0, i * 5, none⟩), .bool true, undef, undef, vs 11, .pointer (some ⟨b0, i * 5, none⟩), .pointer (some ⟨b0, i * 5, none⟩), .pointer (some ⟨b0, i * 5 + 3, none⟩), .int .i64 1, .bool true, .bool true, undef, undef, undef, undef, undef, .bool true, .bool true, undef, undef, undef, undef, undef, undef, undef, undef, .bool true, vs 0, vs 1, vs 2, vs 3, vs 4, vs 5, .pointer (some ⟨b0, i * 5 + 4, none⟩), vs 7, vs 8, vs 9, vs 10, undef, undef, undef, undef], defers := [] } : Act); rw [e5]) rfl
  case refine_9 =>
    intro _ _ kk vs W hB hv
    have e6 : vs 6 = .pointer (some ⟨b0, i * 5 + 4, none⟩) := hv ⟨6, .data⟩ (by simp) rfl (by decide)
    have u4 := hcell.out W hB
    clear hv
    simp only [e6]
    go_wp2
    exact PurePost.mk' (.slice (some ⟨fb, 0, none⟩) 0 0) (by first | (rw [← e6]; rfl) | (simp [upd, e6])) rfl
  case refine_10 =>
    intro _ _ kk vs W hB hv
    have e7 : vs 7 = .slice (some ⟨fb, 0, none⟩) 0 0 := hv ⟨7, .data⟩ (by simp) rfl (by decide)
    clear hv
    simp only [e7]
    go_wp2
    exact PurePost.mk' (.int .i64 0) (by first | (rw [← e7]; rfl) | (simp [upd, e7])) rfl
  case refine_11 =>
    intro _ _ kk vs W hB hv
    have e8 : vs 8 = .int .i64 0 := hv ⟨8, .data⟩ (by simp) rfl (by decide)
    clear hv
    simp only [e8]
    go_wp2
    exact PurePost.mk' (.int .i64 0) (by show _ = ({ tmps := #[.pointer (some ⟨b0, i * 5, none⟩), .bool true, undef, undef, vs 11, .pointer (some ⟨b0, i * 5, none⟩), .pointer (some ⟨b0, i * 5, none⟩), .pointer (some ⟨b0, i * 5 + 3, none⟩), .int .i64 1, .bool true, .bool true, undef, undef, undef, undef, undef, .bool true, .bool true, undef, undef, undef, undef, undef, undef, undef, undef, .bool true, vs 0, vs 1, vs 2, vs 3, vs 4, vs 5, vs 6, vs 7, vs 8, .int .i64 0, vs 10, undef, undef, undef, undef], defers := [] } : Act); rw [e8]) rfl
  case refine_12 =>
    intro _ _ kk vs W hB hv
    have e3 : vs 3 = .slice (some ⟨fb, 0, none⟩) 0 0 := hv ⟨3, .data⟩ (by simp) rfl (by decide)
    have e9 : vs 9 = .int .i64 0 := hv ⟨9, .data⟩ (by simp) rfl (by decide)
    clear hv
    simp only [e3, e9]
    go_wp2
    exact PurePost.mk' (.slice (some ⟨fb, 0, none⟩) 0 0) (by show _ = ({ tmps := #[.pointer (some ⟨b0, i * 5, none⟩), .bool true, undef, undef, vs 11, .pointer (some ⟨b0, i * 5, none⟩), .pointer (some ⟨b0, i * 5, none⟩), .pointer (some ⟨b0, i * 5 + 3, none⟩), .int .i64 1, .bool true, .bool true, undef, undef, undef, undef, undef, .bool true, .bool true, undef, undef, undef, undef, undef, undef, undef, undef, .bool true, vs 0, vs 1, vs 2, vs 3, vs 4, vs 5, vs 6, vs 7, vs 8, vs 9, .slice (some ⟨fb, 0, none⟩) 0 0, undef, undef, undef, undef], defers := [] } : Act); rw [e3, e9]) rfl
  case refine_13 => exact fun _ h => absurd h (by simp)
  case refine_14 =>
    intro kk qq o hq
    simp at hq
  case refine_15 =>
    intro o ho vs W hB hv
    obtain rfl := Option.some.inj ho
    have e0 : vs 0 = .pointer (some ⟨b0, i * 5, none⟩) := hv 0 (by simp) (by simp)
    have e1 : vs 1 = .pointer (some ⟨b0, i * 5, none⟩) := hv 1 (by simp) (by simp)
    have e2 : vs 2 = .pointer (some ⟨b0, i * 5 + 4, none⟩) := hv 2 (by simp) (by simp)
    have e3 : vs 3 = .slice (some ⟨fb, 0, none⟩) 0 0 := hv 3 (by simp) (by simp)
    have e4 : vs 4 = .pointer (some ⟨b0, i * 5, none⟩) := hv 4 (by simp) (by simp)
    have e5 : vs 5 = .pointer (some ⟨b0, i * 5, none⟩) := hv 5 (by simp) (by simp)
    have e6 : vs 6 = .pointer (some ⟨b0, i * 5 + 4, none⟩) := hv 6 (by simp) (by simp)
    have e7 : vs 7 = .slice (some ⟨fb, 0, none⟩) 0 0 := hv 7 (by simp) (by simp)
    have e8 : vs 8 = .int .i64 0 := hv 8 (by simp) (by simp)
    have e9 : vs 9 = .int .i64 0 := hv 9 (by simp) (by simp)
    have e10 : vs 10 = .slice (some ⟨fb, 0, none⟩) 0 0 := hv 10 (by simp) (by simp)
    clear hv
    simp only [e0, e1, e2, e3, e4, e5, e6, e7, e8, e9, e10]
    clear e0 e1 e2 e3 e4 e5 e6 e7 e8 e9 e10
    go_wp2
    go_ret
    exact ⟨rfl, hB⟩
set_option maxRecDepth 100000 in
theorem leads1y (w : World) (b0 i fb n fc : Nat) (h3 : w.cell? ⟨b0, i * 5 + 3, none⟩ = some (.int .i64 1)) (h4 : w.cell? ⟨b0, i * 5 + 4, none⟩ = some (.slice (some ⟨fb, 0, none⟩) 0 fc)) (hb : b0 < w.heap.size) (hf : 0 < fc) : Calls Try.prog 61 #[.pointer (some ⟨b0, i * 5, none⟩), .bool true] w fun e w' => e = .returned (.slice (some ⟨fb, 0, none⟩) 0 fc) ∧ Below w.heap.size w w' := by
  have hcell : Hid (∀ W, Below w.heap.size w W → W.cell? ⟨b0, i * 5 + 4, none⟩ = some (.slice (some ⟨fb, 0, none⟩) 0 fc)) := fun W hB => (hB.cell (p := ⟨b0, i * 5 + 4, none⟩) hb).trans h4
  have hf1 : (0 : Int) < fc := by omega
  go_enter Try.func61, Try.ntmps61
  go_upto_region 2 with fail
  refine wp_region_chain (by kernel_rfl) (fun vs => { tmps := #[.pointer (some ⟨b0, i * 5, none⟩), .bool true, undef, undef, vs 11, .pointer (some ⟨b0, i * 5, none⟩), .pointer (some ⟨b0, i * 5, none⟩), .pointer (some ⟨b0, i * 5 + 3, none⟩), .int .i64 1, .bool true, .bool true, undef, undef, undef, undef, undef, .bool true, .bool true, undef, undef, undef, undef, undef, undef, undef, undef, .bool true, vs 0, vs 1, vs 2, vs 3, vs 4, vs 5, vs 6, vs 7, vs 8, vs 9, vs 10, undef, undef, undef, undef], defers := [] }) [] (lv1 [.pointer (some ⟨b0, i * 5, none⟩), .pointer (some ⟨b0, i * 5, none⟩), .pointer (some ⟨b0, i * 5 + 4, none⟩), .slice (some ⟨fb, 0, none⟩) 0 fc, .pointer (some ⟨b0, i * 5, none⟩), .pointer (some ⟨b0, i * 5, none⟩), .pointer (some ⟨b0, i * 5 + 4, none⟩), .slice (some ⟨fb, 0, none⟩) 0 fc, .int .i64 0, .int .i64 0, .slice (some ⟨fb, 0, none⟩) 0 fc]) (fun _ _ W => Below w.heap.size w W) (fun i => if i = 11 then .slice none 0 0 else undef) rfl (by kernel_rfl) ?_ (fun _ _ _ _ _ _ h => h) (allAt_all ⟨?_, ?_, ?_, ?_, ?_, ?_, ?_, ?_, ?_, ?_, ?_, ?_, trivial⟩) ?_ ?_
  case refine_1 => exact Below.drew (Below.refl _ _)
  case refine_2 =>
    intro _ _ kk vs W hB hv
    clear hv
    go_wp2
    exact PurePost.mk' (.pointer (some ⟨b0, i * 5, none⟩)) (by rfl) rfl
  case refine_3 =>
    intro _ _ kk vs W hB hv
    have e0 : vs 0 = .pointer (some ⟨b0, i * 5, none⟩) := hv ⟨0, .data⟩ (by simp) rfl (by decide)
    clear hv
    simp only [e0]
    go_wp2
    exact PurePost.mk' (.pointer (some ⟨b0, i * 5, none⟩)) (by show _ = ({ tmps := #[.pointer (some ⟨b0, i * 5, none⟩), .bool true, undef, undef, vs 11, .pointer (some ⟨b0, i * 5, none⟩), .pointer (some ⟨b0, i * 5, none⟩), .pointer (some ⟨b0, i * 5 + 3, none⟩), .int .i64 1, .bool true, .bool true, undef, undef, undef, undef, undef, .bool true, .bool true, undef, undef, undef, undef, undef, undef, undef, undef, .bool true, vs 0, .pointer (some ⟨b0, i * 5, none⟩), vs 2, vs 3, vs 4, vs 5, vs 6, vs 7, vs 8, vs 9, vs 10, undef, undef, undef, undef], defers := [] } : Act); rw [e0]) rfl
  case refine_4 =>
    intro _ _ kk vs W hB hv
    have e1 : vs 1 = .pointer (some ⟨b0, i * 5, none⟩) := hv ⟨1, .data⟩ (by simp) rfl (by decide)
    clear hv
    simp only [e1]
    go_wp2
    exact PurePost.mk' (.pointer (some ⟨b0, i * 5 + 4, none⟩)) (by show _ = ({ tmps := #[.pointer (some ⟨b0, i * 5, none⟩), .bool true, undef, undef, vs 11, .pointer (some ⟨b0, i * 5, none⟩), .pointer (some ⟨b0, i * 5, none⟩), .pointer (some ⟨b0, i * 5 + 3, none⟩), .int .i64 1, .bool true, .bool true, undef, undef, undef, undef, undef, .bool true, .bool true, undef, undef, undef, undef, undef, undef, undef, undef, .bool true, vs 0, vs 1, .pointer (some ⟨b0, i * 5 + 4, none⟩), vs 3, vs 4, vs 5, vs 6, vs 7, vs 8, vs 9, vs 10, undef, undef, undef, undef], defers := [] } : Act); rw [e1]) rfl
  case refine_5 =>
    intro _ _ kk vs W hB hv
    have e2 : vs 2 = .pointer (some ⟨b0, i * 5 + 4, none⟩) := hv ⟨2, .data⟩ (by simp) rfl (by decide)
    have u4 := hcell.out W hB
    clear hv
    simp only [e2]
    go_wp2
    exact PurePost.mk' (.slice (some ⟨fb, 0, none⟩) 0 fc) (by first | (rw [← e2]; rfl) | (simp [upd, e2])) rfl
  case refine_6 =>
    intro _ _ kk vs W hB hv
    clear hv
    go_wp2
    exact PurePost.mk' (.pointer (some ⟨b0, i * 5, none⟩)) (by rfl) rfl
  case refine_7 =>
    intro _ _ kk vs W hB hv
    have e4 : vs 4 = .pointer (some ⟨b0, i * 5, none⟩) := hv ⟨4, .data⟩ (by simp) rfl (by decide)
    clear hv
    simp only [e4]
    go_wp2
    exact PurePost.mk' (.pointer (some ⟨b0, i * 5, none⟩)) (by show _ = ({ tmps := #[.pointer (some ⟨b0, i * 5, none⟩), .bool true, undef, undef, vs 11, .pointer (some ⟨b0, i * 5, none⟩), .pointer (some ⟨b0, i * 5, none⟩), .pointer (some ⟨b0, i * 5 + 3, none⟩), .int .i64 1, .bool true, .bool true, undef, undef, undef, undef, undef, .bool true, .bool true, undef, undef, undef, undef, undef, undef, undef, undef, .bool true, vs 0, vs 1, vs 2, vs 3, vs 4, .pointer (some ⟨b0, i * 5, none⟩), vs 6, vs 7, vs 8, vs 9, vs 10, undef, undef, undef, undef], defers := [] } : Act); rw [e4]) rfl
  case refine_8 =>
    intro _ _ kk vs W hB hv
    have e5 : vs 5 = .pointer (some ⟨b0, i * 5, none⟩) := hv ⟨5, .data⟩ (by simp) rfl (by decide)
    clear hv
    simp only [e5]
    go_wp2
    exact PurePost.mk' (.pointer (some ⟨b0, i * 5 + 4, none⟩)) (by show _ = ({ tmps := #[.pointer (some ⟨b0, i * 5, none⟩), .bool true, undef, undef, vs 11, .pointer (some ⟨b0, i * 5, none⟩), .pointer (some ⟨b0, i * 5, none⟩), .pointer (some ⟨b0, i * 5 + 3, none⟩), .int .i64 1, .bool true, .bool true, undef, undef, undef, undef, undef, .bool true, .bool true, undef, undef, undef, undef, undef, undef, undef, undef, .bool true, vs 0, vs 1, vs 2, vs 3, vs 4, vs 5, .pointer (some ⟨b0, i * 5 + 4, none⟩), vs 7, vs 8, vs 9, vs 10, undef, undef, undef, undef], defers := [] } : Act); rw [e5]) rfl
  case refine_9 =>
    intro _ _ kk vs W hB hv
    have e6 : vs 6 = .pointer (some ⟨b0, i * 5 + 4, none⟩) := hv ⟨6, .data⟩ (by simp) rfl (by decide)
    have u4 := hcell.out W hB
    clear hv
    simp only [e6]
    go_wp2
    exact PurePost.mk' (.slice (some ⟨fb, 0, none⟩) 0 fc) (by first | (rw [← e6]; rfl) | (simp [upd, e6])) rfl
  case refine_10 =>
    intro _ _ kk vs W hB hv
    have e7 : vs 7 = .slice (some ⟨fb, 0, none⟩) 0 fc := hv ⟨7, .data⟩ (by simp) rfl (by decide)
    clear hv
    simp only [e7]
    go_wp2
    exact PurePost.mk' (.int .i64 0) (by first | (rw [← e7]; rfl) | (simp [upd, e7])) rfl
  case refine_11 =>
    intro _ _ kk vs W hB hv
    have e8 : vs 8 = .int .i64 0 := hv ⟨8, .data⟩ (by simp) rfl (by decide)
    clear hv
    simp only [e8]
    go_wp2
    exact PurePost.mk' (.int .i64 0) (by show _ = ({ tmps := #[.pointer (some ⟨b0, i * 5, none⟩), .bool true, undef, undef, vs 11, .pointer (some ⟨b0, i * 5, none⟩), .pointer (some ⟨b0, i * 5, none⟩), .pointer (some ⟨b0, i * 5 + 3, none⟩), .int .i64 1, .bool true, .bool true, undef, undef, undef, undef, undef, .bool true, .bool true, undef, undef, undef, undef, undef, undef, undef, undef, .bool true, vs 0, vs 1, vs 2, vs 3, vs 4, vs 5, vs 6, vs 7, vs 8, .int .i64 0, vs 10, undef, undef, undef, undef], defers := [] } : Act); rw [e8]) rfl
  case refine_12 =>
    intro _ _ kk vs W hB hv
    have e3 : vs 3 = .slice (some ⟨fb, 0, none⟩) 0 fc := hv ⟨3, .data⟩ (by simp) rfl (by decide)
    have e9 : vs 9 = .int .i64 0 := hv ⟨9, .data⟩ (by simp) rfl (by decide)
    clear hv
    simp only [e3, e9]
    go_wp2
    exact PurePost.mk' (.slice (some ⟨fb, 0, none⟩) 0 fc) (by show _ = ({ tmps := #[.pointer (some ⟨b0, i * 5, none⟩), .bool true, undef, undef, vs 11, .pointer (some ⟨b0, i * 5, none⟩), .pointer (some ⟨b0, i * 5, none⟩), .pointer (some ⟨b0, i * 5 + 3, none⟩), .int .i64 1, .bool true, .bool true, undef, undef, undef, undef, undef, .bool true, .bool true, undef, undef, undef, undef, undef, undef, undef, undef, .bool true, vs 0, vs 1, vs 2, vs 3, vs 4, vs 5, vs 6, vs 7, vs 8, vs 9, .slice (some ⟨fb, 0, none⟩) 0 fc, undef, undef, undef, undef], defers := [] } : Act); rw [e3, e9]) rfl
  case refine_13 => exact fun _ h => absurd h (by simp)
  case refine_14 =>
    intro kk qq o hq
    simp at hq
  case refine_15 =>
    intro o ho vs W hB hv
    obtain rfl := Option.some.inj ho
    have e0 : vs 0 = .pointer (some ⟨b0, i * 5, none⟩) := hv 0 (by simp) (by simp)
    have e1 : vs 1 = .pointer (some ⟨b0, i * 5, none⟩) := hv 1 (by simp) (by simp)
    have e2 : vs 2 = .pointer (some ⟨b0, i * 5 + 4, none⟩) := hv 2 (by simp) (by simp)
    have e3 : vs 3 = .slice (some ⟨fb, 0, none⟩) 0 fc := hv 3 (by simp) (by simp)
    have e4 : vs 4 = .pointer (some ⟨b0, i * 5, none⟩) := hv 4 (by simp) (by simp)
    have e5 : vs 5 = .pointer (some ⟨b0, i * 5, none⟩) := hv 5 (by simp) (by simp)
    have e6 : vs 6 = .pointer (some ⟨b0, i * 5 + 4, none⟩) := hv 6 (by simp) (by simp)
    have e7 : vs 7 = .slice (some ⟨fb, 0, none⟩) 0 fc := hv 7 (by simp) (by simp)
    have e8 : vs 8 = .int .i64 0 := hv 8 (by simp) (by simp)
    have e9 : vs 9 = .int .i64 0 := hv 9 (by simp) (by simp)
    have e10 : vs 10 = .slice (some ⟨fb, 0, none⟩) 0 fc := hv 10 (by simp) (by simp)
    clear hv
    simp only [e0, e1, e2, e3, e4, e5, e6, e7, e8, e9, e10]
    clear e0 e1 e2 e3 e4 e5 e6 e7 e8 e9 e10
    go_wp2
    go_ret
    exact ⟨rfl, hB⟩
set_option maxRecDepth 100000 in
theorem leads1x (w : World) (b0 i fb n fc : Nat) (h3 : w.cell? ⟨b0, i * 5 + 3, none⟩ = some (.int .i64 1)) (h4 : w.cell? ⟨b0, i * 5 + 4, none⟩ = some (.slice (some ⟨fb, 0, none⟩) 1 1)) (hb : b0 < w.heap.size)  : Calls Try.prog 61 #[.pointer (some ⟨b0, i * 5, none⟩), .bool true] w fun e w' => e = .returned (.slice (some ⟨fb, 0, none⟩) 0 0) ∧ Below w.heap.size w w' := by
  have hcell : Hid (∀ W, Below w.heap.size w W → W.cell? ⟨b0, i * 5 + 4, none⟩ = some (.slice (some ⟨fb, 0, none⟩) 1 1)) := fun W hB => (hB.cell (p := ⟨b0, i * 5 + 4, none⟩) hb).trans h4
  go_enter Try.func61, Try.ntmps61
  go_upto_region 2 with fail
  refine wp_region_chain (by kernel_rfl) (fun vs => { tmps := #[.pointer (some ⟨b0, i * 5, none⟩), .bool true, undef, undef, vs 11, .pointer (some ⟨b0, i * 5, none⟩), .pointer (some ⟨b0, i * 5, none⟩), .pointer (some ⟨b0, i * 5 + 3, none⟩), .int .i64 1, .bool true, .bool true, undef, undef, undef, undef, undef, .bool true, .bool true, undef, undef, undef, undef, undef, undef, undef, undef, .bool true, vs 0, vs 1, vs 2, vs 3, vs 4, vs 5, vs 6, vs 7, vs 8, vs 9, vs 10, undef, undef, undef, undef], defers := [] }) [] (lv1 [.pointer (some ⟨b0, i * 5, none⟩), .pointer (some ⟨b0, i * 5, none⟩), .pointer (some ⟨b0, i * 5 + 4, none⟩), .slice (some ⟨fb, 0, none⟩) 1 1, .pointer (some ⟨b0, i * 5, none⟩), .pointer (some ⟨b0, i * 5, none⟩), .pointer (some ⟨b0, i * 5 + 4, none⟩), .slice (some ⟨fb, 0, none⟩) 1 1, .int .i64 1, .int .i64 1, .slice (some ⟨fb, 0, none⟩) 0 0]) (fun _ _ W => Below w.heap.size w W) (fun i => if i = 11 then .slice none 0 0 else undef) rfl (by kernel_rfl) ?_ (fun _ _ _ _ _ _ h => h) (allAt_all ⟨?_, ?_, ?_, ?_, ?_, ?_, ?_, ?_, ?_, ?_, ?_, ?_, trivial⟩) ?_ ?_
  case refine_1 => exact Below.drew (Below.refl _ _)
  case refine_2 =>
    intro _ _ kk vs W hB hv
    clear hv
    go_wp2
    exact PurePost.mk' (.pointer (some ⟨b0, i * 5, none⟩)) (by rfl) rfl
  case refine_3 =>
    intro _ _ kk vs W hB hv
    have e0 : vs 0 = .pointer (some ⟨b0, i * 5, none⟩) := hv ⟨0, .data⟩ (by simp) rfl (by decide)
    clear hv
    simp only [e0]
    go_wp2
    exact PurePost.mk' (.pointer (some ⟨b0, i * 5, none⟩)) (by show _ = ({ tmps := #[.pointer (some ⟨b0, i * 5, none⟩), .bool true, undef, undef, vs 11, .pointer (some ⟨b0, i * 5, none⟩), .pointer (some ⟨b0, i * 5, none⟩), .pointer (some ⟨b0, i * 5 + 3, none⟩), .int .i64 1, .bool true, .bool true, undef, undef, undef, undef, undef, .bool true, .bool true, undef, undef, undef, undef, undef, undef, undef, undef, .bool true, vs 0, .pointer (some ⟨b0, i * 5, none⟩), vs 2, vs 3, vs 4, vs 5, vs 6, vs 7, vs 8, vs 9, vs 10, undef, undef, undef, undef], defers := [] } : Act); rw [e0]) rfl
  case refine_4 =>
    intro _ _ kk vs W hB hv
    have e1 : vs 1 = .pointer (some ⟨b0, i * 5, none⟩) := hv ⟨1, .data⟩ (by simp) rfl (by decide)
    clear hv
    simp only [e1]
    go_wp2
    exact PurePost.mk' (.pointer (some ⟨b0, i * 5 + 4, none⟩)) (by show _ = ({ tmps := #[.pointer (some ⟨b0, i * 5, none⟩), .bool true, undef, undef, vs 11, .pointer (some ⟨b0, i * 5, none⟩), .pointer (some ⟨b0, i * 5, none⟩), .pointer (some ⟨b0, i * 5 + 3, none⟩), .int .i64 1, .bool true, .bool true, undef, undef, undef, undef, undef, .bool true, .bool true, undef, undef, undef, undef, undef, undef, undef, undef, .bool true, vs 0, vs 1, .pointer (some ⟨b0, i * 5 + 4, none⟩), vs 3, vs 4, vs 5, vs 6, vs 7, vs 8, vs 9, vs 10, undef, undef, undef, undef], defers := [] } : Act); rw [e1]) rfl
  case refine_5 =>
    intro _ _ kk vs W hB hv
    have e2 : vs 2 = .pointer (some ⟨b0, i * 5 + 4, none⟩) := hv ⟨2, .data⟩ (by simp) rfl (by decide)
    have u4 := hcell.out W hB
    clear hv
    simp only [e2]
    go_wp2
    exact PurePost.mk' (.slice (some ⟨fb, 0, none⟩) 1 1) (by first | (rw [← e2]; rfl) | (simp [upd, e2])) rfl
  case refine_6 =>
    intro _ _ kk vs W hB hv
    clear hv
    go_wp2
    exact PurePost.mk' (.pointer (some ⟨b0, i * 5, none⟩)) (by rfl) rfl
  case refine_7 =>
    intro _ _ kk vs W hB hv
    have e4 : vs 4 = .pointer (some ⟨b0, i * 5, none⟩) := hv ⟨4, .data⟩ (by simp) rfl (by decide)
    clear hv
    simp only [e4]
    go_wp2
    exact PurePost.mk' (.pointer (some ⟨b0, i * 5, none⟩)) (by show _ = ({ tmps := #[.pointer (some ⟨b0, i * 5, none⟩), .bool true, undef, undef, vs 11, .pointer (some ⟨b0, i * 5, none⟩), .pointer (some ⟨b0, i * 5, none⟩), .pointer (some ⟨b0, i * 5 + 3, none⟩), .int .i64 1, .bool true, .bool true, undef, undef, undef, undef, undef, .bool true, .bool true, undef, undef, undef, undef, undef, undef, undef, undef, .bool true, vs 0, vs 1, vs 2, vs 3, vs 4, .pointer (some ⟨b0, i * 5, none⟩), vs 6, vs 7, vs 8, vs 9, vs 10, undef, undef, undef, undef], defers := [] } : Act); rw [e4]) rfl
  case refine_8 =>
    intro _ _ kk vs W hB hv
    have e5 : vs 5 = .pointer (some ⟨b0, i * 5, none⟩) := hv ⟨5, .data⟩ (by simp) rfl (by decide)
    clear hv
    simp only [e5]
    go_wp2
    exact PurePost.mk' (.pointer (some ⟨b0, i * 5 + 4, none⟩)) (by show _ = ({ tmps := #[.pointer (some ⟨b0, i * 5, none⟩), .bool true, undef, undef, vs 11, .pointer (some ⟨b0, i * 5, none⟩), .pointer (some ⟨b0, i * 5, none⟩), .pointer (some ⟨b0, i * 5 + 3, none⟩), .int .i64 1, .bool true, .bool true, undef, undef, undef, undef, undef, .bool true, .bool true, undef, undef, undef, undef, undef, undef, undef, undef, .bool true, vs 0, vs 1, vs 2, vs 3, vs 4, vs 5, .pointer (some ⟨b0, i * 5 + 4, none⟩), vs 7, vs 8, vs 9, vs 10, undef, undef, undef, undef], defers := [] } : Act); rw [e5]) rfl
  case refine_9 =>
    intro _ _ kk vs W hB hv
    have e6 : vs 6 = .pointer (some ⟨b0, i * 5 + 4, none⟩) := hv ⟨6, .data⟩ (by simp) rfl (by decide)
    have u4 := hcell.out W hB
    clear hv
    simp only [e6]
    go_wp2
    exact PurePost.mk' (.slice (some ⟨fb, 0, none⟩) 1 1) (by first | (rw [← e6]; rfl) | (simp [upd, e6])) rfl
  case refine_10 =>
    intro _ _ kk vs W hB hv
    have e7 : vs 7 = .slice (some ⟨fb, 0, none⟩) 1 1 := hv ⟨7, .data⟩ (by simp) rfl (by decide)
    clear hv
    simp only [e7]
    go_wp2
    exact PurePost.mk' (.int .i64 1) (by first | (rw [← e7]; rfl) | (simp [upd, e7])) rfl
  case refine_11 =>
    intro _ _ kk vs W hB hv
    have e8 : vs 8 = .int .i64 1 := hv ⟨8, .data⟩ (by simp) rfl (by decide)
    clear hv
    simp only [e8]
    go_wp2
    exact PurePost.mk' (.int .i64 1) (by show _ = ({ tmps := #[.pointer (some ⟨b0, i * 5, none⟩), .bool true, undef, undef, vs 11, .pointer (some ⟨b0, i * 5, none⟩), .pointer (some ⟨b0, i * 5, none⟩), .pointer (some ⟨b0, i * 5 + 3, none⟩), .int .i64 1, .bool true, .bool true, undef, undef, undef, undef, undef, .bool true, .bool true, undef, undef, undef, undef, undef, undef, undef, undef, .bool true, vs 0, vs 1, vs 2, vs 3, vs 4, vs 5, vs 6, vs 7, vs 8, .int .i64 1, vs 10, undef, undef, undef, undef], defers := [] } : Act); rw [e8]) rfl
  case refine_12 =>
    intro _ _ kk vs W hB hv
    have e3 : vs 3 = .slice (some ⟨fb, 0, none⟩) 1 1 := hv ⟨3, .data⟩ (by simp) rfl (by decide)
    have e9 : vs 9 = .int .i64 1 := hv ⟨9, .data⟩ (by simp) rfl (by decide)
    clear hv
    simp only [e3, e9]
    go_wp2
    exact PurePost.mk' (.slice (some ⟨fb, 0, none⟩) 0 0) (by show _ = ({ tmps := #[.pointer (some ⟨b0, i * 5, none⟩), .bool true, undef, undef, vs 11, .pointer (some ⟨b0, i * 5, none⟩), .pointer (some ⟨b0, i * 5, none⟩), .pointer (some ⟨b0, i * 5 + 3, none⟩), .int .i64 1, .bool true, .bool true, undef, undef, undef, undef, undef, .bool true, .bool true, undef, undef, undef, undef, undef, undef, undef, undef, .bool true, vs 0, vs 1, vs 2, vs 3, vs 4, vs 5, vs 6, vs 7, vs 8, vs 9, .slice (some ⟨fb, 0, none⟩) 0 0, undef, undef, undef, undef], defers := [] } : Act); rw [e3, e9]) rfl
  case refine_13 => exact fun _ h => absurd h (by simp)
  case refine_14 =>
    intro kk qq o hq
    simp at hq
  case refine_15 =>
    intro o ho vs W hB hv
    obtain rfl := Option.some.inj ho
    have e0 : vs 0 = .pointer (some ⟨b0, i * 5, none⟩) := hv 0 (by simp) (by simp)
    have e1 : vs 1 = .pointer (some ⟨b0, i * 5, none⟩) := hv 1 (by simp) (by simp)
    have e2 : vs 2 = .pointer (some ⟨b0, i * 5 + 4, none⟩) := hv 2 (by simp) (by simp)
    have e3 : vs 3 = .slice (some ⟨fb, 0, none⟩) 1 1 := hv 3 (by simp) (by simp)
    have e4 : vs 4 = .pointer (some ⟨b0, i * 5, none⟩) := hv 4 (by simp) (by simp)
    have e5 : vs 5 = .pointer (some ⟨b0, i * 5, none⟩) := hv 5 (by simp) (by simp)
    have e6 : vs 6 = .pointer (some ⟨b0, i * 5 + 4, none⟩) := hv 6 (by simp) (by simp)
    have e7 : vs 7 = .slice (some ⟨fb, 0, none⟩) 1 1 := hv 7 (by simp) (by simp)
    have e8 : vs 8 = .int .i64 1 := hv 8 (by simp) (by simp)
    have e9 : vs 9 = .int .i64 1 := hv 9 (by simp) (by simp)
    have e10 : vs 10 = .slice (some ⟨fb, 0, none⟩) 0 0 := hv 10 (by simp) (by simp)
    clear hv
    simp only [e0, e1, e2, e3, e4, e5, e6, e7, e8, e9, e10]
    clear e0 e1 e2 e3 e4 e5 e6 e7 e8 e9 e10
    go_wp2
    go_ret
    exact ⟨rfl, hB⟩
set_option maxRecDepth 100000 in
theorem leads1w (w : World) (b0 i fb n fc : Nat) (h3 : w.cell? ⟨b0, i * 5 + 3, none⟩ = some (.int .i64 1)) (h4 : w.cell? ⟨b0, i * 5 + 4, none⟩ = some (.slice (some ⟨fb, 0, none⟩) n fc)) (hb : b0 < w.heap.size) (hn : 1 ≤ n) (hf : 2 ≤ fc) (hnf : n ≤ fc) : Calls Try.prog 61 #[.pointer (some ⟨b0, i * 5, none⟩), .bool true] w fun e w' => e = .returned (.slice (some ⟨fb, 1, none⟩) (n - 1) (fc - 1)) ∧ Below w.heap.size w w' := by
  have hcell : Hid (∀ W, Below w.heap.size w W → W.cell? ⟨b0, i * 5 + 4, none⟩ = some (.slice (some ⟨fb, 0, none⟩) n fc)) := fun W hB => (hB.cell (p := ⟨b0, i * 5 + 4, none⟩) hb).trans h4
  have hn1 : (1 : Int) ≤ n := by omega
  have hf1 : (2 : Int) ≤ fc := by omega
  have hnf1 : (n : Int) ≤ fc := by omega
  go_enter Try.func61, Try.ntmps61
  go_upto_region 2 with fail
  refine wp_region_chain (by kernel_rfl) (fun vs => { tmps := #[.pointer (some ⟨b0, i * 5, none⟩), .bool true, undef, undef, vs 11, .pointer (some ⟨b0, i * 5, none⟩), .pointer (some ⟨b0, i * 5, none⟩), .pointer (some ⟨b0, i * 5 + 3, none⟩), .int .i64 1, .bool true, .bool true, undef, undef, undef, undef, undef, .bool true, .bool true, undef, undef, undef, undef, undef, undef, undef, undef, .bool true, vs 0, vs 1, vs 2, vs 3, vs 4, vs 5, vs 6, vs 7, vs 8, vs 9, vs 10, undef, undef, undef, undef], defers := [] }) [] (lv1 [.pointer (some ⟨b0, i * 5, none⟩), .pointer (some ⟨b0, i * 5, none⟩), .pointer (some ⟨b0, i * 5 + 4, none⟩), .slice (some ⟨fb, 0, none⟩) n fc, .pointer (some ⟨b0, i * 5, none⟩), .pointer (some ⟨b0, i * 5, none⟩), .pointer (some ⟨b0, i * 5 + 4, none⟩), .slice (some ⟨fb, 0, none⟩) n fc, .int .i64 (n : Int), .int .i64 1, .slice (some ⟨fb, 1, none⟩) (n - 1) (fc - 1)]) (fun _ _ W => Below w.heap.size w W) (fun i => if i = 11 then .slice none 0 0 else undef) rfl (by kernel_rfl) ?_ (fun _ _ _ _ _ _ h => h) (allAt_all ⟨?_, ?_, ?_, ?_, ?_, ?_, ?_, ?_, ?_, ?_, ?_, ?_, trivial⟩) ?_ ?_
  case refine_1 => exact Below.drew (Below.refl _ _)
  case refine_2 =>
    intro _ _ kk vs W hB hv
    clear hv
    go_wp2
    exact PurePost.mk' (.pointer (some ⟨b0, i * 5, none⟩)) (by rfl) rfl
  case refine_3 =>
    intro _ _ kk vs W hB hv
    have e0 : vs 0 = .pointer (some ⟨b0, i * 5, none⟩) := hv ⟨0, .data⟩ (by simp) rfl (by decide)
    clear hv
    simp only [e0]
    go_wp2
    exact PurePost.mk' (.pointer (some ⟨b0, i * 5, none⟩)) (by show _ = ({ tmps := #[.pointer (some ⟨b0, i * 5, none⟩), .bool true, undef, undef, vs 11, .pointer (some ⟨b0, i * 5, none⟩), .pointer (some ⟨b0, i * 5, none⟩), .pointer (some ⟨b0, i * 5 + 3, none⟩), .int .i64 1, .bool true, .bool true, undef, undef, undef, undef, undef, .bool true, .bool true, undef, undef, undef, undef, undef, undef, undef, undef, .bool true, vs 0, .pointer (some ⟨b0, i * 5, none⟩), vs 2, vs 3, vs 4, vs 5, vs 6, vs 7, vs 8, vs 9, vs 10, undef, undef, undef, undef], defers := [] } : Act); rw [e0]) rfl
  case refine_4 =>
    intro _ _ kk vs W hB hv
    have e1 : vs 1 = .pointer (some ⟨b0, i * 5, none⟩) := hv ⟨1, .data⟩ (by simp) rfl (by decide)
    clear hv
    simp only [e1]
    go_wp2
    exact PurePost.mk' (.pointer (some ⟨b0, i * 5 + 4, none⟩)) (by show _ = ({ tmps := #[.pointer (some ⟨b0, i * 5, none⟩), .bool true, undef, undef, vs 11, .pointer (some ⟨b0, i * 5, none⟩), .pointer (some ⟨b0, i * 5, none⟩), .pointer (some ⟨b0, i * 5 + 3, none⟩), .int .i64 1, .bool true, .bool true, undef, undef, undef, undef, undef, .bool true, .bool true, undef, undef, undef, undef, undef, undef, undef, undef, .bool true, vs 0, vs 1, .pointer (some ⟨b0, i * 5 + 4, none⟩), vs 3, vs 4, vs 5, vs 6, vs 7, vs 8, vs 9, vs 10, undef, undef, undef, undef], defers := [] } : Act); rw [e1]) rfl
  case refine_5 =>
    intro _ _ kk vs W hB hv
    have e2 : vs 2 = .pointer (some ⟨b0, i * 5 + 4, none⟩) := hv ⟨2, .data⟩ (by simp) rfl (by decide)
    have u4 := hcell.out W hB
    clear hv
    simp only [e2]
    go_wp2
    exact PurePost.mk' (.slice (some ⟨fb, 0, none⟩) n fc) (by first | (rw [← e2]; rfl) | (simp [upd, e2])) rfl
  case refine_6 =>
    intro _ _ kk vs W hB hv
    clear hv
    go_wp2
    exact PurePost.mk' (.pointer (some ⟨b0, i * 5, none⟩)) (by rfl) rfl
  case refine_7 =>
    intro _ _ kk vs W hB hv
    have e4 : vs 4 = .pointer (some ⟨b0, i * 5, none⟩) := hv ⟨4, .data⟩ (by simp) rfl (by decide)
    clear hv
    simp only [e4]
    go_wp2
    exact PurePost.mk' (.pointer (some ⟨b0, i * 5, none⟩)) (by show _ = ({ tmps := #[.pointer (some ⟨b0, i * 5, none⟩), .bool true, undef, undef, vs 11, .pointer (some ⟨b0, i * 5, none⟩), .pointer (some ⟨b0, i * 5, none⟩), .pointer (some ⟨b0, i * 5 + 3, none⟩), .int .i64 1, .bool true, .bool true, undef, undef, undef, undef, undef, .bool true, .bool true, undef, undef, undef, undef, undef, undef, undef, undef, .bool true, vs 0, vs 1, vs 2, vs 3, vs 4, .pointer (some ⟨b0, i * 5, none⟩), vs 6, vs 7, vs 8, vs 9, vs 10, undef, undef, undef, undef], defers := [] } : Act); rw [e4]) rfl
  case refine_8 =>
    intro _ _ kk vs W hB hv
    have e5 : vs 5 = .pointer (some ⟨b0, i * 5, none⟩) := hv ⟨5, .data⟩ (by simp) rfl (by decide)
    clear hv
    simp only [e5]
    go_wp2
    exact PurePost.mk' (.pointer (some ⟨b0, i * 5 + 4, none⟩)) (by show _ = ({ tmps := #[.pointer (some ⟨b0, i * 5, none⟩), .bool true, undef, undef, vs 11, .pointer (some ⟨b0, i * 5, none⟩), .pointer (some ⟨b0, i * 5, none⟩), .pointer (some ⟨b0, i * 5 + 3, none⟩), .int .i64 1, .bool true, .bool true, undef, undef, undef, undef, undef, .bool true, .bool true, undef, undef, undef, undef, undef, undef, undef, undef, .bool true, vs 0, vs 1, vs 2, vs 3, vs 4, vs 5, .pointer (some ⟨b0, i * 5 + 4, none⟩), vs 7, vs 8, vs 9, vs 10, undef, undef, undef, undef], defers := [] } : Act); rw [e5]) rfl
  case refine_9 =>
    intro _ _ kk vs W hB hv
    have e6 : vs 6 = .pointer (some ⟨b0, i * 5 + 4, none⟩) := hv ⟨6, .data⟩ (by simp) rfl (by decide)
    have u4 := hcell.out W hB
    clear hv
    simp only [e6]
    go_wp2
    exact PurePost.mk' (.slice (some ⟨fb, 0, none⟩) n fc) (by first | (rw [← e6]; rfl) | (simp [upd, e6])) rfl
  case refine_10 =>
    intro _ _ kk vs W hB hv
    have e7 : vs 7 = .slice (some ⟨fb, 0, none⟩) n fc := hv ⟨7, .data⟩ (by simp) rfl (by decide)
    clear hv
    simp only [e7]
    go_wp2
    exact PurePost.mk' (.int .i64 (n : Int)) (by first | (rw [← e7]; rfl) | (simp [upd, e7])) rfl
  case refine_11 =>
    intro _ _ kk vs W hB hv
    have e8 : vs 8 = .int .i64 (n : Int) := hv ⟨8, .data⟩ (by simp) rfl (by decide)
    clear hv
    simp only [e8]
    go_wp2
    exact PurePost.mk' (.int .i64 1) (by first | (rw [← e8]; rfl) | (simp [upd, e8])) rfl
  case refine_12 =>
    intro _ _ kk vs W hB hv
    have e3 : vs 3 = .slice (some ⟨fb, 0, none⟩) n fc := hv ⟨3, .data⟩ (by simp) rfl (by decide)
    have e9 : vs 9 = .int .i64 1 := hv ⟨9, .data⟩ (by simp) rfl (by decide)
    clear hv
    simp only [e3, e9]
    go_wp2
    exact PurePost.mk' (.slice (some ⟨fb, 1, none⟩) (n - 1) (fc - 1)) (by show _ = ({ tmps := #[.pointer (some ⟨b0, i * 5, none⟩), .bool true, undef, undef, vs 11, .pointer (some ⟨b0, i * 5, none⟩), .pointer (some ⟨b0, i * 5, none⟩), .pointer (some ⟨b0, i * 5 + 3, none⟩), .int .i64 1, .bool true, .bool true, undef, undef, undef, undef, undef, .bool true, .bool true, undef, undef, undef, undef, undef, undef, undef, undef, .bool true, vs 0, vs 1, vs 2, vs 3, vs 4, vs 5, vs 6, vs 7, vs 8, vs 9, .slice (some ⟨fb, 1, none⟩) (n - 1) (fc - 1), undef, undef, undef, undef], defers := [] } : Act); rw [e3, e9]) rfl
  case refine_13 => exact fun _ h => absurd h (by simp)
  case refine_14 =>
    intro kk qq o hq
    simp at hq
  case refine_15 =>
    intro o ho vs W hB hv
    obtain rfl := Option.some.inj ho
    have e0 : vs 0 = .pointer (some ⟨b0, i * 5, none⟩) := hv 0 (by simp) (by simp)
    have e1 : vs 1 = .pointer (some ⟨b0, i * 5, none⟩) := hv 1 (by simp) (by simp)
    have e2 : vs 2 = .pointer (some ⟨b0, i * 5 + 4, none⟩) := hv 2 (by simp) (by simp)
    have e3 : vs 3 = .slice (some ⟨fb, 0, none⟩) n fc := hv 3 (by simp) (by simp)
    have e4 : vs 4 = .pointer (some ⟨b0, i * 5, none⟩) := hv 4 (by simp) (by simp)
    have e5 : vs 5 = .pointer (some ⟨b0, i * 5, none⟩) := hv 5 (by simp) (by simp)
    have e6 : vs 6 = .pointer (some ⟨b0, i * 5 + 4, none⟩) := hv 6 (by simp) (by simp)
    have e7 : vs 7 = .slice (some ⟨fb, 0, none⟩) n fc := hv 7 (by simp) (by simp)
    have e8 : vs 8 = .int .i64 (n : Int) := hv 8 (by simp) (by simp)
    have e9 : vs 9 = .int .i64 1 := hv 9 (by simp) (by simp)
    have e10 : vs 10 = .slice (some ⟨fb, 1, none⟩) (n - 1) (fc - 1) := hv 10 (by simp) (by simp)
    clear hv
    simp only [e0, e1, e2, e3, e4, e5, e6, e7, e8, e9, e10]
    clear e0 e1 e2 e3 e4 e5 e6 e7 e8 e9 e10
    go_wp2
    go_ret
    exact ⟨rfl, hB⟩
set_option maxRecDepth 100000 in
theorem leads2z (w : World) (b0 i fb n fc : Nat) (h3 : w.cell? ⟨b0, i * 5 + 3, none⟩ = some (.int .i64 2)) (h4 : w.cell? ⟨b0, i * 5 + 4, none⟩ = some (.slice (some ⟨fb, 0, none⟩) 0 0)) (hb : b0 < w.heap.size)  : Calls Try.prog 61 #[.pointer (some ⟨b0, i * 5, none⟩), .bool true] w fun e w' => e = .returned (.slice (some ⟨fb, 0, none⟩) 0 0) ∧ Below w.heap.size w w' := by
  have hcell : Hid (∀ W, Below w.heap.size w W → W.cell? ⟨b0, i * 5 + 4, none⟩ = some (.slice (some ⟨fb, 0, none⟩) 0 0)) := fun W hB => (hB.cell (p := ⟨b0, i * 5 + 4, none⟩) hb).trans h4
  go_enter Try.func61, Try.ntmps61
  go_upto_region 2 with fail
  refine wp_region_chain (by kernel_rfl) (fun vs => { tmps := #[.pointer (some ⟨b0, i * 5, none⟩), .bool true, undef, undef, vs 11, .pointer (some ⟨b0, i * 5, none⟩), .pointer (some ⟨b0, i * 5, none⟩), .pointer (some ⟨b0, i * 5 + 3, none⟩), .int .i64 2, .bool false, .bool false, .pointer (some ⟨b0, i * 5, none⟩), .pointer (some ⟨b0, i * 5, none⟩), .pointer (some ⟨b0, i * 5 + 3, none⟩), .int .i64 2, .bool false, .bool false, .bool false, .pointer (some ⟨b0, i * 5, none⟩), .pointer (some ⟨b0, i * 5, none⟩), .pointer (some ⟨b0, i * 5 + 3, none⟩), .int .i64 2, .bool true, .bool true, .bool true, .bool true, .bool true, vs 0, vs 1, vs 2, vs 3, vs 4, vs 5, vs 6, vs 7, vs 8, vs 9, vs 10, undef, undef, undef, undef], defers := [] }) [] (lv1 [.pointer (some ⟨b0, i * 5, none⟩), .pointer (some ⟨b0, i * 5, none⟩), .pointer (some ⟨b0, i * 5 + 4, none⟩), .slice (some ⟨fb, 0, none⟩) 0 0, .pointer (some ⟨b0, i * 5, none⟩), .pointer (some ⟨b0, i * 5, none⟩), .pointer (some ⟨b0, i * 5 + 4, none⟩), .slice (some ⟨fb, 0, none⟩) 0 0, .int .i64 0, .int .i64 0, .slice (some ⟨fb, 0, none⟩) 0 0]) (fun _ _ W => Below w.heap.size w W) (fun i => if i = 11 then .slice none 0 0 else undef) rfl (by kernel_rfl) ?_ (fun _ _ _ _ _ _ h => h) (allAt_all ⟨?_, ?_, ?_, ?_, ?_, ?_, ?_, ?_, ?_, ?_, ?_, ?_, trivial⟩) ?_ ?_
  case refine_1 => exact Below.drew (Below.refl _ _)
  case refine_2 =>
    intro _ _ kk vs W hB hv
    clear hv
    go_wp2
    exact PurePost.mk' (.pointer (some ⟨b0, i * 5, none⟩)) (by rfl) rfl
  case refine_3 =>
    intro _ _ kk vs W hB hv
    have e0 : vs 0 = .pointer (some ⟨b0, i * 5, none⟩) := hv ⟨0, .data⟩ (by simp) rfl (by decide)
    clear hv
    simp only [e0]
    go_wp2
    exact PurePost.mk' (.pointer (some ⟨b0, i * 5, none⟩)) (by show _ = ({ tmps := #[.pointer (some ⟨b0, i * 5, none⟩), .bool true, undef, undef, vs 11, .pointer (some ⟨b0, i * 5, none⟩), .pointer (some ⟨b0, i * 5, none⟩), .pointer (some ⟨b0, i * 5 + 3, none⟩), .int .i64 2, .bool false, .bool false, .pointer (some ⟨b0, i * 5, none⟩), .pointer (some ⟨b0, i * 5, none⟩), .pointer (some ⟨b0, i * 5 + 3, none⟩), .int .i64 2, .bool false, .bool false, .bool false, .pointer (some ⟨b0, i * 5, none⟩), .pointer (some ⟨b0, i * 5, none⟩), .pointer (some ⟨b0, i * 5 + 3, none⟩), .int .i64 2, .bool true, .bool true, .bool true, .bool true, .bool true, vs 0, .pointer (some ⟨b0, i * 5, none⟩), vs 2, vs 3, vs 4, vs 5, vs 6, vs 7, vs 8, vs 9, vs 10, undef, undef, undef, undef], defers := [] } : Act); rw [e0]) rfl
  case refine_4 =>
    intro _ _ kk vs W hB hv
    have e1 : vs 1 = .pointer (some ⟨b0, i * 5, none⟩) := hv ⟨1, .data⟩ (by simp) rfl (by decide)
    clear hv
    simp only [e1]
    go_wp2
    exact PurePost.mk' (.pointer (some ⟨b0, i * 5 + 4, none⟩)) (by show _ = ({ tmps := #[.pointer (some ⟨b0, i * 5, none⟩), .bool true, undef, undef, vs 11, .pointer (some ⟨b0, i * 5, none⟩), .pointer (some ⟨b0, i * 5, none⟩), .pointer (some ⟨b0, i * 5 + 3, none⟩), .int .i64 2, .bool false, .bool false, .pointer (some ⟨b0, i * 5, none⟩), .pointer (some ⟨b0, i * 5, none⟩), .pointer (some ⟨b0, i * 5 + 3, none⟩), .int .i64 2, .bool false, .bool false, .bool false, .pointer (some ⟨b0, i * 5, none⟩), .pointer (some ⟨b0, i * 5, none⟩), .pointer (some ⟨b0, i * 5 + 3, none⟩), .int .i64 2, .bool true, .bool true, .bool true, .bool true, .bool true, vs 0, vs 1, .pointer (some ⟨b0, i * 5 + 4, none⟩), vs 3, vs 4, vs 5, vs 6, vs 7, vs 8, vs 9, vs 10, undef, undef, undef, undef], defers := [] } : Act); rw [e1]) rfl
  case refine_5 =>
    intro _ _ kk vs W hB hv
    have e2 : vs 2 = .pointer (some ⟨b0, i * 5 + 4, none⟩) := hv ⟨2, .data⟩ (by simp) rfl (by decide)
    have u4 := hcell.out W hB
    clear hv
    simp only [e2]
    go_wp2
    exact PurePost.mk' (.slice (some ⟨fb, 0, none⟩) 0 0) (by first | (rw [← e2]; rfl) | (simp [upd, e2])) rfl
  case refine_6 =>
    intro _ _ kk vs W hB hv
    clear hv
    go_wp2
    exact PurePost.mk' (.pointer (some ⟨b0, i * 5, none⟩)) (by rfl) rfl
  case refine_7 =>
    intro _ _ kk vs W hB hv
    have e4 : vs 4 = .pointer (some ⟨b0, i * 5, none⟩) := hv ⟨4, .data⟩ (by simp) rfl (by decide)
    clear hv
    simp only [e4]
    go_wp2
    exact PurePost.mk' (.pointer (some ⟨b0, i * 5, none⟩)) (by show _ = ({ tmps := #[.pointer (some ⟨b0, i * 5, none⟩), .bool true, undef, undef, vs 11, .pointer (some ⟨b0, i * 5, none⟩), .pointer (some ⟨b0, i * 5, none⟩), .pointer (some ⟨b0, i * 5 + 3, none⟩), .int .i64 2, .bool false, .bool false, .pointer (some ⟨b0, i * 5, none⟩), .pointer (some ⟨b0, i * 5, none⟩), .pointer (some ⟨b0, i * 5 + 3, none⟩), .int .i64 2, .bool false, .bool false, .bool false, .pointer (some ⟨b0, i * 5, none⟩), .pointer (some ⟨b0, i * 5, none⟩), .pointer (some ⟨b0, i * 5 + 3, none⟩), .int .i64 2, .bool true, .bool true, .bool true, .bool true, .bool true, vs 0, vs 1, vs 2, vs 3, vs 4, .pointer (some ⟨b0, i * 5, none⟩), vs 6, vs 7, vs 8, vs 9, vs 10, undef, undef, undef, undef], defers := [] } : Act); rw [e4]) rfl
  case refine_8 =>
    intro _ _ kk vs W hB hv
    have e5 : vs 5 = .pointer (some ⟨b0, i * 5, none⟩) := hv ⟨5, .data⟩ (by simp) rfl (by decide)
    clear hv
    simp only [e5]
    go_wp2
    exact PurePost.mk' (.pointer (some ⟨b0, i * 5 + 4, none⟩)) (by show _ = ({ tmps := #[.pointer (some ⟨b0, i * 5, none⟩), .bool true, undef, undef, vs 11, .pointer (some ⟨b0, i * 5, none⟩), .pointer (some ⟨b0, i * 5, none⟩), .pointer (some ⟨b0, i * 5 + 3, none⟩), .int .i64 2, .bool false, .bool false, .pointer (some ⟨b0, i * 5, none⟩), .pointer (some ⟨b0, i * 5, none⟩), .pointer (some ⟨b0, i * 5 + 3, none⟩), .int .i64 2, .bool false, .bool false, .bool false, .pointer (some ⟨b0, i * 5, none⟩), .pointer (some ⟨b0, i * 5, none⟩), .pointer (some ⟨b0, i * 5 + 3, none⟩), .int .i64 2, .bool true, .bool true, .bool true, .bool true, .bool true, vs 0, vs 1, vs 2, vs 3, vs 4, vs 5, .pointer (some ⟨b0, i * 5 + 4, none⟩), vs 7, vs 8, vs 9, vs 10, undef, undef, undef, undef], defers := [] } : Act); rw [e5]) rfl
  case refine_9 =>
    intro _ _ kk vs W hB hv
    have e6 : vs 6 = .pointer (some ⟨b0, i * 5 + 4, none⟩) := hv ⟨6, .data⟩ (by simp) rfl (by decide)
    have u4 := hcell.out W hB
    clear hv
    simp only [e6]
    go_wp2
    exact PurePost.mk' (.slice (some ⟨fb, 0, none⟩) 0 0) (by first | (rw [← e6]; rfl) | (simp [upd, e6])) rfl
  case refine_10 =>
    intro _ _ kk vs W hB hv
    have e7 : vs 7 = .slice (some ⟨fb, 0, none⟩) 0 0 := hv ⟨7, .data⟩ (by simp) rfl (by decide)
    clear hv
    simp only [e7]
    go_wp2
    exact PurePost.mk' (.int .i64 0) (by first | (rw [← e7]; rfl) | (simp [upd, e7])) rfl
  case refine_11 =>
    intro _ _ kk vs W hB hv
    have e8 : vs 8 = .int .i64 0 := hv ⟨8, .data⟩ (by simp) rfl (by decide)
    clear hv
    simp only [e8]
    go_wp2
    exact PurePost.mk' (.int .i64 0) (by show _ = ({ tmps := #[.pointer (some ⟨b0, i * 5, none⟩), .bool true, undef, undef, vs 11, .pointer (some ⟨b0, i * 5, none⟩), .pointer (some ⟨b0, i * 5, none⟩), .pointer (some ⟨b0, i * 5 + 3, none⟩), .int .i64 2, .bool false, .bool false, .pointer (some ⟨b0, i * 5, none⟩), .pointer (some ⟨b0, i * 5, none⟩), .pointer (some ⟨b0, i * 5 + 3, none⟩), .int .i64 2, .bool false, .bool false, .bool false, .pointer (some ⟨b0, i * 5, none⟩), .pointer (some ⟨b0, i * 5, none⟩), .pointer (some ⟨b0, i * 5 + 3, none⟩), .int .i64 2, .bool true, .bool true, .bool true, .bool true, .bool true, vs 0, vs 1, vs 2, vs 3, vs 4, vs 5, vs 6, vs 7, vs 8, .int .i64 0, vs 10, undef, undef, undef, undef], defers := [] } : Act); rw [e8]) rfl
  case refine_12 =>
    intro _ _ kk vs W hB hv
    have e3 : vs 3 = .slice (some ⟨fb, 0, none⟩) 0 0 := hv ⟨3, .data⟩ (by simp) rfl (by decide)
    have e9 : vs 9 = .int .i64 0 := hv ⟨9, .data⟩ (by simp) rfl (by decide)
    clear hv
    simp only [e3, e9]
    go_wp2
    exact PurePost.mk' (.slice (some ⟨fb, 0, none⟩) 0 0) (by show _ = ({ tmps := #[.pointer (some ⟨b0, i * 5, none⟩), .bool true, undef, undef, vs 11, .pointer (some ⟨b0, i * 5, none⟩), .pointer (some ⟨b0, i * 5, none⟩), .pointer (some ⟨b0, i * 5 + 3, none⟩), .int .i64 2, .bool false, .bool false, .pointer (some ⟨b0, i * 5, none⟩), .pointer (some ⟨b0, i * 5, none⟩), .pointer (some ⟨b0, i * 5 + 3, none⟩), .int .i64 2, .bool false, .bool false, .bool false, .pointer (some ⟨b0, i * 5, none⟩), .pointer (some ⟨b0, i * 5, none⟩), .pointer (some ⟨b0, i * 5 + 3, none⟩), .int .i64 2, .bool true, .bool true, .bool true, .bool true, .bool true, vs 0, vs 1, vs 2, vs 3, vs 4, vs 5, vs 6, vs 7, vs 8, vs 9, .slice (some ⟨fb, 0, none⟩) 0 0, undef, undef, undef, undef], defers := [] } : Act); rw [e3, e9]) rfl
  case refine_13 => exact fun _ h => absurd h (by simp)
  case refine_14 =>
    intro kk qq o hq
    simp at hq
  case refine_15 =>
    intro o ho vs W hB hv
    obtain rfl := Option.some.inj ho
    have e0 : vs 0 = .pointer (some ⟨b0, i * 5, none⟩) := hv 0 (by simp) (by simp)
    have e1 : vs 1 = .pointer (some ⟨b0, i * 5, none⟩) := hv 1 (by simp) (by simp)
    have e2 : vs 2 = .pointer (some ⟨b0, i * 5 + 4, none⟩) := hv 2 (by simp) (by simp)
    have e3 : vs 3 = .slice (some ⟨fb, 0, none⟩) 0 0 := hv 3 (by simp) (by simp)
    have e4 : vs 4 = .pointer (some ⟨b0, i * 5, none⟩) := hv 4 (by simp) (by simp)
    have e5 : vs 5 = .pointer (some ⟨b0, i * 5, none⟩) := hv 5 (by simp) (by simp)
    have e6 : vs 6 = .pointer (some ⟨b0, i * 5 + 4, none⟩) := hv 6 (by simp) (by simp)
    have e7 : vs 7 = .slice (some ⟨fb, 0, none⟩) 0 0 := hv 7 (by simp) (by simp)
    have e8 : vs 8 = .int .i64 0 := hv 8 (by simp) (by simp)
    have e9 : vs 9 = .int .i64 0 := hv 9 (by simp) (by simp)
    have e10 : vs 10 = .slice (some ⟨fb, 0, none⟩) 0 0 := hv 10 (by simp) (by simp)
    clear hv
    simp only [e0, e1, e2, e3, e4, e5, e6, e7, e8, e9, e10]
    clear e0 e1 e2 e3 e4 e5 e6 e7 e8 e9 e10
    go_wp2
    go_ret
    exact ⟨rfl, hB⟩
set_option maxRecDepth 100000 in
theorem leads2y (w : World) (b0 i fb n fc : Nat) (h3 : w.cell? ⟨b0, i * 5 + 3, none⟩ = some (.int .i64 2)) (h4 : w.cell? ⟨b0, i * 5 + 4, none⟩ = some (.slice (some ⟨fb, 0, none⟩) 0 fc)) (hb : b0 < w.heap.size) (hf : 0 < fc) : Calls Try.prog 61 #[.pointer (some ⟨b0, i * 5, none⟩), .bool true] w fun e w' => e = .returned (.slice (some ⟨fb, 0, none⟩) 0 fc) ∧ Below w.heap.size w w' := by
  have hcell : Hid (∀ W, Below w.heap.size w W → W.cell? ⟨b0, i * 5 + 4, none⟩ = some (.slice (some ⟨fb, 0, none⟩) 0 fc)) := fun W hB => (hB.cell (p := ⟨b0, i * 5 + 4, none⟩) hb).trans h4
  have hf1 : (0 : Int) < fc := by omega
  go_enter Try.func61, Try.ntmps61
  go_upto_region 2 with fail
  refine wp_region_chain (by kernel_rfl) (fun vs => { tmps := #[.pointer (some ⟨b0, i * 5, none⟩), .bool true, undef, undef, vs 11, .pointer (some ⟨b0, i * 5, none⟩), .pointer (some ⟨b0, i * 5, none⟩), .pointer (some ⟨b0, i * 5 + 3, none⟩), .int .i64 2, .bool false, .bool false, .pointer (some ⟨b0, i * 5, none⟩), .pointer (some ⟨b0, i * 5, none⟩), .pointer (some ⟨b0, i * 5 + 3, none⟩), .int .i64 2, .bool false, .bool false, .bool false, .pointer (some ⟨b0, i * 5, none⟩), .pointer (some ⟨b0, i * 5, none⟩), .pointer (some ⟨b0, i * 5 + 3, none⟩), .int .i64 2, .bool true, .bool true, .bool true, .bool true, .bool true, vs 0, vs 1, vs 2, vs 3, vs 4, vs 5, vs 6, vs 7, vs 8, vs 9, vs 10, undef, undef, undef, undef], defers := [] }) [] (lv1 [.pointer (some ⟨b0, i * 5, none⟩), .pointer (some ⟨b0, i * 5, none⟩), .pointer (some ⟨b0, i * 5 + 4, none⟩), .slice (some ⟨fb, 0, none⟩) 0 fc, .pointer (some ⟨b0, i * 5, none⟩), .pointer (some ⟨b0, i * 5, none⟩), .pointer (some ⟨b0, i * 5 + 4, none⟩), .slice (some ⟨fb, 0, none⟩) 0 fc, .int .i64 0, .int .i64 0, .slice (some ⟨fb, 0, none⟩) 0 fc]) (fun _ _ W => Below w.heap.size w W) (fun i => if i = 11 then .slice none 0 0 else undef) rfl (by kernel_rfl) ?_ (fun _ _ _ _ _ _ h => h) (allAt_all ⟨?_, ?_, ?_, ?_, ?_, ?_, ?_, ?_, ?_, ?_, ?_, ?_, trivial⟩) ?_ ?_
  case refine_1 => exact Below.drew (Below.refl _ _)
  case refine_2 =>
    intro _ _ kk vs W hB hv
    clear hv
    go_wp2
    exact PurePost.mk' (.pointer (some ⟨b0, i * 5, none⟩)) (by rfl) rfl
  case refine_3 =>
    intro _ _ kk vs W hB hv
    have e0 : vs 0 = .pointer (some ⟨b0, i * 5, none⟩) := hv ⟨0, .data⟩ (by simp) rfl (by decide)
    clear hv
    simp only [e0]
    go_wp2
    exact PurePost.mk' (.pointer (some ⟨b0, i * 5, none⟩)) (by show _ = ({ tmps := #[.pointer (some ⟨b0, i * 5, none⟩), .bool true, undef, undef, vs 11, .pointer (some ⟨b0, i * 5, none⟩), .pointer (some ⟨b0, i * 5, none⟩), .pointer (some ⟨b0, i * 5 + 3, none⟩), .int .i64 2, .bool false, .bool false, .pointer (some ⟨b0, i * 5, none⟩), .pointer (some ⟨b0, i * 5, none⟩), .pointer (some ⟨b0, i * 5 + 3, none⟩), .int .i64 2, .bool false, .bool false, .bool false, .pointer (some ⟨b0, i * 5, none⟩), .pointer (some ⟨b0, i * 5, none⟩), .pointer (some ⟨b0, i * 5 + 3, none⟩), .int .i64 2, .bool true, .bool true, .bool true, .bool true, .bool true, vs 0, .pointer (some ⟨b0, i * 5, none⟩), vs 2, vs 3, vs 4, vs 5, vs 6, vs 7, vs 8, vs 9, vs 10, undef, undef, undef, undef], defers := [] } : Act); rw [e0]) rfl
  case refine_4 =>
    intro _ _ kk vs W hB hv
    have e1 : vs 1 = .pointer (some ⟨b0, i * 5, none⟩) := hv ⟨1, .data⟩ (by simp) rfl (by decide)
    clear hv
    simp only [e1]
    go_wp2
    exact PurePost.mk' (.pointer (some ⟨b0, i * 5 + 4, none⟩)) (by show _ = ({ tmps := #[.pointer (some ⟨b0, i * 5, none⟩), .bool true, undef, undef, vs 11, .pointer (some ⟨b0, i * 5, none⟩), .pointer (some ⟨b0, i * 5, none⟩), .pointer (some ⟨b0, i * 5 + 3, none⟩), .int .i64 2, .bool false, .bool false, .pointer (some ⟨b0, i * 5, none⟩), .pointer (some ⟨b0, i * 5, none⟩), .pointer (some ⟨b0, i * 5 + 3, none⟩), .int .i64 2, .bool false, .bool false, .bool false, .pointer (some ⟨b0, i * 5, none⟩), .pointer (some ⟨b0, i * 5, none⟩), .pointer (some ⟨b0, i * 5 + 3, none⟩), .int .i64 2, .bool true, .bool true, .bool true, .bool true, .bool true, vs 0, vs 1, .pointer (some ⟨b0, i * 5 + 4, none⟩), vs 3, vs 4, vs 5, vs 6, vs 7, vs 8, vs 9, vs 10, undef, undef, undef, undef], defers := [] } : Act); rw [e1]) rfl
  case refine_5 =>
    intro _ _ kk vs W hB hv
    have e2 : vs 2 = .pointer (some ⟨b0, i * 5 + 4, none⟩) := hv ⟨2, .data⟩ (by simp) rfl (by decide)
    have u4 := hcell.out W hB
    clear hv
    simp only [e2]
    go_wp2
    exact PurePost.mk' (.slice (some ⟨fb, 0, none⟩) 0 fc) (by first | (rw [← e2]; rfl) | (simp [upd, e2])) rfl
  case refine_6 =>
    intro _ _ kk vs W hB hv
    clear hv
    go_wp2
    exact PurePost.mk' (.pointer (some ⟨b0, i * 5, none⟩)) (by rfl) rfl
  case refine_7 =>
    intro _ _ kk vs W hB hv
    have e4 : vs 4 = .pointer (some ⟨b0, i * 5, none⟩) := hv ⟨4, .data⟩ (by simp) rfl (by decide)
    clear hv
    simp only [e4]
    go_wp2
    exact PurePost.mk' (.pointer (some ⟨b0, i * 5, none⟩)) (by show _ = ({ tmps := #[.pointer (some ⟨b0, i * 5, none⟩), .bool true, undef, undef, vs 11, .pointer (some ⟨b0, i * 5, none⟩), .pointer (some ⟨b0, i * 5, none⟩), .pointer (some ⟨b0, i * 5 + 3, none⟩), .int .i64 2, .bool false, .bool false, .pointer (some ⟨b0, i * 5, none⟩), .pointer (some ⟨b0, i * 5, none⟩), .pointer (some ⟨b0, i * 5 + 3, none⟩), .int .i64 2, .bool false, .bool false, .bool false, .pointer (some ⟨b0, i * 5, none⟩), .pointer (some ⟨b0, i * 5, none⟩), .pointer (some ⟨b0, i * 5 + 3, none⟩), .int .i64 2, .bool true, .bool true, .bool true, .bool true, .bool true, vs 0, vs 1, vs 2, vs 3, vs 4, .pointer (some ⟨b0, i * 5, none⟩), vs 6, vs 7, vs 8, vs 9, vs 10, undef, undef, undef, undef], defers := [] } : Act); rw [e4]) rfl
  case refine_8 =>
    intro _ _ kk vs W hB hv
    have e5 : vs 5 = .pointer (some ⟨b0, i * 5, none⟩) := hv ⟨5, .data⟩ (by simp) rfl (by decide)
    clear hv
    simp only [e5]
    go_wp2
    exact PurePost.mk' (.pointer (some ⟨b0, i * 5 + 4, none⟩)) (by show _ = ({ tmps := #[.pointer (some ⟨b0, i * 5, none⟩), .bool true, undef, undef, vs 11, .pointer (some ⟨b0, i * 5, none⟩), .pointer (some ⟨b0, i * 5, none⟩), .pointer (some ⟨b0, i * 5 + 3, none⟩), .int .i64 2, .bool false, .bool false, .pointer (some ⟨b0, i * 5, none⟩), .pointer (some ⟨b0, i * 5, none⟩), .pointer (some ⟨b0, i * 5 + 3, none⟩), .int .i64 2, .bool false, .bool false, .bool false, .pointer (some ⟨b0, i * 5, none⟩), .pointer (some ⟨b0, i * 5, none⟩), .pointer (some ⟨b0, i * 5 + 3, none⟩), .int .i64 2, .bool true, .bool true, .bool true, .bool true, .bool true, vs 0, vs 1, vs 2, vs 3, vs 4, vs 5, .pointer (some ⟨b0, i * 5 + 4, none⟩), vs 7, vs 8, vs 9, vs 10, undef, undef, undef, undef], defers := [] } : Act); rw [e5]) rfl
  case refine_9 =>
    intro _ _ kk vs W hB hv
    have e6 : vs 6 = .pointer (some ⟨b0, i * 5 + 4, none⟩) := hv ⟨6, .data⟩ (by simp) rfl (by decide)
    have u4 := hcell.out W hB
    clear hv
    simp only [e6]
    go_wp2
    exact PurePost.mk' (.slice (some ⟨fb, 0, none⟩) 0 fc) (by first | (rw [← e6]; rfl) | (simp [upd, e6])) rfl
  case refine_10 =>
    intro _ _ kk vs W hB hv
    have e7 : vs 7 = .slice (some ⟨fb, 0, none⟩) 0 fc := hv ⟨7, .data⟩ (by simp) rfl (by decide)
    clear hv
    simp only [e7]
    go_wp2
    exact PurePost.mk' (.int .i64 0) (by first | (rw [← e7]; rfl) | (simp [upd, e7])) rfl
  case refine_11 =>
    intro _ _ kk vs W hB hv
    have e8 : vs 8 = .int .i64 0 := hv ⟨8, .data⟩ (by simp) rfl (by decide)
    clear hv
    simp only [e8]
    go_wp2
    exact PurePost.mk' (.int .i64 0) (by show _ = ({ tmps := #[.pointer (some ⟨b0, i * 5, none⟩), .bool true, undef, undef, vs 11, .pointer (some ⟨b0, i * 5, none⟩), .pointer (some ⟨b0, i * 5, none⟩), .pointer (some ⟨b0, i * 5 + 3, none⟩), .int .i64 2, .bool false, .bool false, .pointer (some ⟨b0, i * 5, none⟩), .pointer (some ⟨b0, i * 5, none⟩), .pointer (some ⟨b0, i * 5 + 3, none⟩), .int .i64 2, .bool false, .bool false, .bool false, .pointer (some ⟨b0, i * 5, none⟩), .pointer (some ⟨b0, i * 5, none⟩), .pointer (some ⟨b0, i * 5 + 3, none⟩), .int .i64 2, .bool true, .bool true, .bool true, .bool true, .bool true, vs 0, vs 1, vs 2, vs 3, vs 4, vs 5, vs 6, vs 7, vs 8, .int .i64 0, vs 10, undef, undef, undef, undef], defers := [] } : Act); rw [e8]) rfl
  case refine_12 =>
    intro _ _ kk vs W hB hv
    have e3 : vs 3 = .slice (some ⟨fb, 0, none⟩) 0 fc := hv ⟨3, .data⟩ (by simp) rfl (by decide)
    have e9 : vs 9 = .int .i64 0 := hv ⟨9, .data⟩ (by simp) rfl (by decide)
    clear hv
    simp only [e3, e9]
    go_wp2
    exact PurePost.mk' (.slice (some ⟨fb, 0, none⟩) 0 fc) (by show _ = ({ tmps := #[.pointer (some ⟨b0, i * 5, none⟩), .bool true, undef, undef, vs 11, .pointer (some ⟨b0, i * 5, none⟩), .pointer (some ⟨b0, i * 5, none⟩), .pointer (some ⟨b0, i * 5 + 3, none⟩), .int .i64 2, .bool false, .bool false, .pointer (some ⟨b0, i * 5, none⟩), .pointer (some ⟨b0, i * 5, none⟩), .pointer (some ⟨b0, i * 5 + 3, none⟩), .int .i64 2, .bool false, .bool false, .bool false, .pointer (some ⟨b0, i * 5, none⟩), .pointer (some ⟨b0, i * 5, none⟩), .pointer (some ⟨b0, i * 5 + 3, none⟩), .int .i64 2, .bool true, .bool true, .bool true, .bool true, .bool true, vs 0, vs 1, vs 2, vs 3, vs 4, vs 5, vs 6, vs 7, vs 8, vs 9, .slice (some ⟨fb, 0, none⟩) 0 fc, undef, undef, undef, undef], defers := [] } : Act); rw [e3, e9]) rfl
  case refine_13 => exact fun _ h => absurd h (by simp)
  case refine_14 =>
    intro kk qq o hq
    simp at hq
  case refine_15 =>
    intro o ho vs W hB hv
    obtain rfl := Option.some.inj ho
    have e0 : vs 0 = .pointer (some ⟨b0, i * 5, none⟩) := hv 0 (by simp) (by simp)
    have e1 : vs 1 = .pointer (some ⟨b0, i * 5, none⟩) := hv 1 (by simp) (by simp)
    have e2 : vs 2 = .pointer (some ⟨b0, i * 5 + 4, none⟩) := hv 2 (by simp) (by simp)
    have e3 : vs 3 = .slice (some ⟨fb, 0, none⟩) 0 fc := hv 3 (by simp) (by simp)
    have e4 : vs 4 = .pointer (some ⟨b0, i * 5, none⟩) := hv 4 (by simp) (by simp)
    have e5 : vs 5 = .pointer (some ⟨b0, i * 5, none⟩) := hv 5 (by simp) (by simp)
    have e6 : vs 6 = .pointer (some ⟨b0, i * 5 + 4, none⟩) := hv 6 (by simp) (by simp)
    have e7 : vs 7 = .slice (some ⟨fb, 0, none⟩) 0 fc := hv 7 (by simp) (by simp)
    have e8 : vs 8 = .int .i64 0 := hv 8 (by simp) (by simp)
    have e9 : vs 9 = .int .i64 0 := hv 9 (by simp) (by simp)
    have e10 : vs 10 = .slice (some ⟨fb, 0, none⟩) 0 fc := hv 10 (by simp) (by simp)
    clear hv
    simp only [e0, e1, e2, e3, e4, e5, e6, e7, e8, e9, e10]
    clear e0 e1 e2 e3 e4 e5 e6 e7 e8 e9 e10
    go_wp2
    go_ret
    exact ⟨rfl, hB⟩
set_option maxRecDepth 100000 in
theorem leads2x (w : World) (b0 i fb n fc : Nat) (h3 : w.cell? ⟨b0, i * 5 + 3, none⟩ = some (.int .i64 2)) (h4 : w.cell? ⟨b0, i * 5 + 4, none⟩ = some (.slice (some ⟨fb, 0, none⟩) 1 1)) (hb : b0 < w.heap.size)  : Calls Try.prog 61 #[.pointer (some ⟨b0, i * 5, none⟩), .bool true] w fun e w' => e = .returned (.slice (some ⟨fb, 0, none⟩) 0 0) ∧ Below w.heap.size w w' := by
  have hcell : Hid (∀ W, Below w.heap.size w W → W.cell? ⟨b0, i * 5 + 4, none⟩ = some (.slice (some ⟨fb, 0, none⟩) 1 1)) := fun W hB => (hB.cell (p := ⟨b0, i * 5 + 4, none⟩) hb).trans h4
  go_enter Try.func61, Try.ntmps61
  go_upto_region 2 with fail
  refine wp_region_chain (by kernel_rfl) (fun vs => { tmps := #[.pointer (some ⟨b0, i * 5, none⟩), .bool true, undef, undef, vs 11, .pointer (some ⟨b0, i * 5, none⟩), .pointer (some ⟨b0, i * 5, none⟩), .pointer (some ⟨b0, i * 5 + 3, none⟩), .int .i64 2, .bool false, .bool false, .pointer (some ⟨b0, i * 5, none⟩), .pointer (some ⟨b0, i * 5, none⟩), .pointer (some ⟨b0, i * 5 + 3, none⟩), .int .i64 2, .bool false, .bool false, .bool false, .pointer (some ⟨b0, i * 5, none⟩), .pointer (some ⟨b0, i * 5, none⟩), .pointer (some ⟨b0, i * 5 + 3, none⟩), .int .i64 2, .bool true, .bool true, .bool true, .bool true, .bool true, vs 0, vs 1, vs 2, vs 3, vs 4, vs 5, vs 6, vs 7, vs 8, vs 9, vs 10, undef, undef, undef, undef], defers := [] }) [] (lv1 [.pointer (some ⟨b0, i * 5, none⟩), .pointer (some ⟨b0, i * 5, none⟩), .pointer (some ⟨b0, i * 5 + 4, none⟩), .slice (some ⟨fb, 0, none⟩) 1 1, .pointer (some ⟨b0, i * 5, none⟩), .pointer (some ⟨b0, i * 5, none⟩), .pointer (some ⟨b0, i * 5 + 4, none⟩), .slice (some ⟨fb, 0, none⟩) 1 1, .int .i64 1, .int .i64 1, .slice (some ⟨fb, 0, none⟩) 0 0]) (fun _ _ W => Below w.heap.size w W) (fun i => if i = 11 then .slice none 0 0 else undef) rfl (by kernel_rfl) ?_ (fun _ _ _ _ _ _ h => h) (allAt_all ⟨?_, ?_, ?_, ?_, ?_, ?_, ?_, ?_, ?_, ?_, ?_, ?_, trivial⟩) ?_ ?_
  case refine_1 => exact Below.drew (Below.refl _ _)
  case refine_2 =>
    intro _ _ kk vs W hB hv
    clear hv
    go_wp2
    exact PurePost.mk' (.pointer (some ⟨b0, i * 5, none⟩)) (by rfl) rfl
  case refine_3 =>
    intro _ _ kk vs W hB hv
    have e0 : vs 0 = .pointer (some ⟨b0, i * 5, none⟩) := hv ⟨0, .data⟩ (by simp) rfl (by decide)
    clear hv
    simp only [e0]
    go_wp2
    exact PurePost.mk' (.pointer (some ⟨b0, i * 5, none⟩)) (by show _ = ({ tmps := #[.pointer (some ⟨b0, i * 5, none⟩), .bool true, undef, undef, vs 11, .pointer (some ⟨b0, i * 5, none⟩), .pointer (some ⟨b0, i * 5, none⟩), .pointer (some ⟨b0, i * 5 + 3, none⟩), .int .i64 2, .bool false, .bool false, .pointer (some ⟨b0, i * 5, none⟩), .pointer (some ⟨b0, i * 5, none⟩), .pointer (some ⟨b0, i * 5 + 3, none⟩), .int .i64 2, .bool false, .bool false, .bool false, .pointer (some ⟨b0, i * 5, none⟩), .pointer (some ⟨b0, i * 5, none⟩), .pointer (some ⟨b0, i * 5 + 3, none⟩), .int .i64 2, .bool true, .bool true, .bool true, .bool true, .bool true, vs 0, .pointer (some ⟨b0, i * 5, none⟩), vs 2, vs 3, vs 4, vs 5, vs 6, vs 7, vs 8, vs 9, vs 10, undef, undef, undef, undef], defers := [] } : Act); rw [e0]) rfl
  case refine_4 =>
    intro _ _ kk vs W hB hv
    have e1 : vs 1 = .pointer (some ⟨b0, i * 5, none⟩) := hv ⟨1, .data⟩ (by simp) rfl (by decide)
    clear hv
    simp only [e1]
    go_wp2
    exact PurePost.mk' (.pointer (some ⟨b0, i * 5 + 4, none⟩)) (by show _ = ({ tmps := #[.pointer (some ⟨b0, i * 5, none⟩), .bool true, undef, undef, vs 11, .pointer (some ⟨b0, i * 5, none⟩), .pointer (some ⟨b0, i * 5, none⟩), .pointer (some ⟨b0, i * 5 + 3, none⟩), .int .i64 2, .bool false, .bool false, .pointer (some ⟨b0, i * 5, none⟩), .pointer (some ⟨b0, i * 5, none⟩), .pointer (some ⟨b0, i * 5 + 3, none⟩), .int .i64 2, .bool false, .bool false, .bool false, .pointer (some ⟨b0, i * 5, none⟩), .pointer (some ⟨b0, i * 5, none⟩), .pointer (some ⟨b0, i * 5 + 3, none⟩), .int .i64 2, .bool true, .bool true, .bool true, .bool true, .bool true, vs 0, vs 1, .pointer (some ⟨b0, i * 5 + 4, none⟩), vs 3, vs 4, vs 5, vs 6, vs 7, vs 8, vs 9, vs 10, undef, undef, undef, undef], defers := [] } : Act); rw [e1]) rfl
  case refine_5 =>
    intro _ _ kk vs W hB hv
    have e2 : vs 2 = .pointer (some ⟨b0, i * 5 + 4, none⟩) := hv ⟨2, .data⟩ (by simp) rfl (by decide)
    have u4 := hcell.out W hB
    clear hv
    simp only [e2]
    go_wp2
    exact PurePost.mk' (.slice (some ⟨fb, 0, none⟩) 1 1) (by first | (rw [← e2]; rfl) | (simp [upd, e2])) rfl
  case refine_6 =>
    intro _ _ kk vs W hB hv
    clear hv
    go_wp2
    exact PurePost.mk' (.pointer (some ⟨b0, i * 5, none⟩)) (by rfl) rfl
  case refine_7 =>
    intro _ _ kk vs W hB hv
    have e4 : vs 4 = .pointer (some ⟨b0, i * 5, none⟩) := hv ⟨4, .data⟩ (by simp) rfl (by decide)
    clear hv
    simp only [e4]
    go_wp2
    exact PurePost.mk' (.pointer (some ⟨b0, i * 5, none⟩)) (by show _ = ({ tmps := #[.pointer (some ⟨b0, i * 5, none⟩), .bool true, undef, undef, vs 11, .pointer (some ⟨b0, i * 5, none⟩), .pointer (some ⟨b0, i * 5, none⟩), .pointer (some ⟨b0, i * 5 + 3, none⟩), .int .i64 2, .bool false, .bool false, .pointer (some ⟨b0, i * 5, none⟩), .pointer (some ⟨b0, i * 5, none⟩), .pointer (some ⟨b0, i * 5 + 3, none⟩), .int .i64 2, .bool false, .bool false, .bool false, .pointer (some ⟨b0, i * 5, none⟩), .pointer (some ⟨b0, i * 5, none⟩), .pointer (some ⟨b0, i * 5 + 3, none⟩), .int .i64 2, .bool true, .bool true, .bool true, .bool true, .bool true, vs 0, vs 1, vs 2, vs 3, vs 4, .pointer (some ⟨b0, i * 5, none⟩), vs 6, vs 7, vs 8, vs 9, vs 10, undef, undef, undef, undef], defers := [] } : Act); rw [e4]) rfl
  case refine_8 =>
    intro _ _ kk vs W hB hv
    have e5 : vs 5 = .pointer (some ⟨b0, i * 5, none⟩) := hv ⟨5, .data⟩ (by simp) rfl (by decide)
    clear hv
    simp only [e5]
    go_wp2
    exact PurePost.mk' (.pointer (some ⟨b0, i * 5 + 4, none⟩)) (by show _ = ({ tmps := #[.pointer (some ⟨b0, i * 5, none⟩), .bool true, undef, undef, vs 11, .pointer (some ⟨b0, i * 5, none⟩), .pointer (some ⟨b0, i * 5, none⟩), .pointer (some ⟨b0, i * 5 + 3, none⟩), .int .i64 2, .bool false, .bool false, .pointer (some ⟨b0, i * 5, none⟩), .pointer (some ⟨b0, i * 5, none⟩), .pointer (some ⟨b0, i * 5 + 3, none⟩), .int .i64 2, .bool false, .bool false, .bool false, .pointer (some ⟨b0, i * 5, none⟩), .pointer (some ⟨b0, i * 5, none⟩), .pointer (some ⟨b0, i * 5 + 3, none⟩), .int .i64 2, .bool true, .bool true, .bool true, .bool true, .bool true, vs 0, vs 1, vs 2, vs 3, vs 4, vs 5, .pointer (some ⟨b0, i * 5 + 4, none⟩), vs 7, vs 8, vs 9, vs 10, undef, undef, undef, undef], defers := [] } : Act); rw [e5]) rfl
  case refine_9 =>
    intro _ _ kk vs W hB hv
    have e6 : vs 6 = .pointer (some ⟨b0, i * 5 + 4, none⟩) := hv ⟨6, .data⟩ (by simp) rfl (by decide)
    have u4 := hcell.out W hB
    clear hv
    simp only [e6]
    go_wp2
    exact PurePost.mk' (.slice (some ⟨fb, 0, none⟩) 1 1) (by first | (rw [← e6]; rfl) | (simp [upd, e6])) rfl
  case refine_10 =>
    intro _ _ kk vs W hB hv
    have e7 : vs 7 = .slice (some ⟨fb, 0, none⟩) 1 1 := hv ⟨7, .data⟩ (by simp) rfl (by decide)
    clear hv
    simp only [e7]
    go_wp2
    exact PurePost.mk' (.int .i64 1) (by first | (rw [← e7]; rfl) | (simp [upd, e7])) rfl
  case refine_11 =>
    intro _ _ kk vs W hB hv
    have e8 : vs 8 = .int .i64 1 := hv ⟨8, .data⟩ (by simp) rfl (by decide)
    clear hv
    simp only [e8]
    go_wp2
    exact PurePost.mk' (.int .i64 1) (by show _ = ({ tmps := #[.pointer (some ⟨b0, i * 5, none⟩), .bool true, undef, undef, vs 11, .pointer (some ⟨b0, i * 5, none⟩), .pointer (some ⟨b0, i * 5, none⟩), .pointer (some ⟨b0, i * 5 + 3, none⟩), .int .i64 2, .bool false, .bool false, .pointer (some ⟨b0, i * 5, none⟩), .pointer (some ⟨b0, i * 5, none⟩), .pointer (some ⟨b0, i * 5 + 3, none⟩), .int .i64 2, .bool false, .bool false, .bool false, .pointer (some ⟨b0, i * 5, none⟩), .pointer (some ⟨b0, i * 5, none⟩), .pointer (some ⟨b0, i * 5 + 3, none⟩), .int .i64 2, .bool true, .bool true, .bool true, .bool true, .bool true, vs 0, vs 1, vs 2, vs 3, vs 4, vs 5, vs 6, vs 7, vs 8, .int .i64 1, vs 10, undef, undef, undef, undef], defers := [] } : Act); rw [e8]) rfl
  case refine_12 =>
    intro _ _ kk vs W hB hv
    have e3 : vs 3 = .slice (some ⟨fb, 0, none⟩) 1 1 := hv ⟨3, .data⟩ (by simp) rfl (by decide)
    have e9 : vs 9 = .int .i64 1 := hv ⟨9, .data⟩ (by simp) rfl (by decide)
    clear hv
    simp only [e3, e9]
    go_wp2
    exact PurePost.mk' (.slice (some ⟨fb, 0, none⟩) 0 0) (by first | (rw [← e3, ← e9]; rfl) | (simp [upd, e3, e9])) rfl
  case refine_13 => exact fun _ h => absurd h (by simp)
  case refine_14 =>
    intro kk qq o hq
    simp at hq
  case refine_15 =>
    intro o ho vs W hB hv
    obtain rfl := Option.some.inj ho
    have e0 : vs 0 = .pointer (some ⟨b0, i * 5, none⟩) := hv 0 (by simp) (by simp)
    have e1 : vs 1 = .pointer (some ⟨b0, i * 5, none⟩) := hv 1 (by simp) (by simp)
    have e2 : vs 2 = .pointer (some ⟨b0, i * 5 + 4, none⟩) := hv 2 (by simp) (by simp)
    have e3 : vs 3 = .slice (some ⟨fb, 0, none⟩) 1 1 := hv 3 (by simp) (by simp)
    have e4 : vs 4 = .pointer (some ⟨b0, i * 5, none⟩) := hv 4 (by simp) (by simp)
    have e5 : vs 5 = .pointer (some ⟨b0, i * 5, none⟩) := hv 5 (by simp) (by simp)
    have e6 : vs 6 = .pointer (some ⟨b0, i * 5 + 4, none⟩) := hv 6 (by simp) (by simp)
    have e7 : vs 7 = .slice (some ⟨fb, 0, none⟩) 1 1 := hv 7 (by simp) (by simp)
    have e8 : vs 8 = .int .i64 1 := hv 8 (by simp) (by simp)
    have e9 : vs 9 = .int .i64 1 := hv 9 (by simp) (by simp)
    have e10 : vs 10 = .slice (some ⟨fb, 0, none⟩) 0 0 := hv 10 (by simp) (by simp)
    clear hv
    simp only [e0, e1, e2, e3, e4, e5, e6, e7, e8, e9, e10]
    clear e0 e1 e2 e3 e4 e5 e6 e7 e8 e9 e10
    go_wp2
    go_ret
    exact ⟨rfl, hB⟩
set_option maxRecDepth 100000 in
theorem leads2w (w : World) (b0 i fb n fc : Nat) (h3 : w.cell? ⟨b0, i * 5 + 3, none⟩ = some (.int .i64 2)) (h4 : w.cell? ⟨b0, i * 5 + 4, none⟩ = some (.slice (some ⟨fb, 0, none⟩) n fc)) (hb : b0 < w.heap.size) (hn : 1 ≤ n) (hf : 2 ≤ fc) (hnf : n ≤ fc) : Calls Try.prog 61 #[.pointer (some ⟨b0, i * 5, none⟩), .bool true] w fun e w' => e = .returned (.slice (some ⟨fb, 1, none⟩) (n - 1) (fc - 1)) ∧ Below w.heap.size w w' := by
  have hcell : Hid (∀ W, Below w.heap.size w W → W.cell? ⟨b0, i * 5 + 4, none⟩ = some (.slice (some ⟨fb, 0, none⟩) n fc)) := fun W hB => (hB.cell (p := ⟨b0, i * 5 + 4, none⟩) hb).trans h4
  have hn1 : (1 : Int) ≤ n := by omega
  have hf1 : (2 : Int) ≤ fc := by omega
  have hnf1 : (n : Int) ≤ fc := by omega
  go_enter Try.func61, Try.ntmps61
  go_upto_region 2 with fail
  refine wp_region_chain (by kernel_rfl) (fun vs => { tmps := #[.pointer (some ⟨b0, i * 5, none⟩), .bool true, undef, undef, vs 11, .pointer (some ⟨b0, i * 5, none⟩), .pointer (some ⟨b0, i * 5, none⟩), .pointer (some ⟨b0, i * 5 + 3, none⟩), .int .i64 2, .bool false, .bool false, .pointer (some ⟨b0, i * 5, none⟩), .pointer (some ⟨b0, i * 5, none⟩), .pointer (some ⟨b0, i * 5 + 3, none⟩), .int .i64 2, .bool false, .bool false, .bool false, .pointer (some ⟨b0, i * 5, none⟩), .pointer (some ⟨b0, i * 5, none⟩), .pointer (some ⟨b0, i * 5 + 3, none⟩), .int .i64 2, .bool true, .bool true, .bool true, .bool true, .bool true, vs 0, vs 1, vs 2, vs 3, vs 4, vs 5, vs 6, vs 7, vs 8, vs 9, vs 10, undef, undef, undef, undef], defers := [] }) [] (lv1 [.pointer (some ⟨b0, i * 5, none⟩), .pointer (some ⟨b0, i * 5, none⟩), .pointer (some ⟨b0, i * 5 + 4, none⟩), .slice (some ⟨fb, 0, none⟩) n fc, .pointer (some ⟨b0, i * 5, none⟩), .pointer (some ⟨b0, i * 5, none⟩), .pointer (some ⟨b0, i * 5 + 4, none⟩), .slice (some ⟨fb, 0, none⟩) n fc, .int .i64 (n : Int), .int .i64 1, .slice (some ⟨fb, 1, none⟩) (n - 1) (fc - 1)]) (fun _ _ W => Below w.heap.size w W) (fun i => if i = 11 then .slice none 0 0 else undef) rfl (by kernel_rfl) ?_ (fun _ _ _ _ _ _ h => h) (allAt_all ⟨?_, ?_, ?_, ?_, ?_, ?_, ?_, ?_, ?_, ?_, ?_, ?_, trivial⟩) ?_ ?_
  case refine_1 => exact Below.drew (Below.refl _ _)
  case refine_2 =>
    intro _ _ kk vs W hB hv
    clear hv
    go_wp2
    exact PurePost.mk' (.pointer (some ⟨b0, i * 5, none⟩)) (by rfl) rfl
  case refine_3 =>
    intro _ _ kk vs W hB hv
    have e0 : vs 0 = .pointer (some ⟨b0, i * 5, none⟩) := hv ⟨0, .data⟩ (by simp) rfl (by decide)
    clear hv
    simp only [e0]
    go_wp2
    exact PurePost.mk' (.pointer (some ⟨b0, i * 5, none⟩)) (by show _ = ({ tmps := #[.pointer (some ⟨b0, i * 5, none⟩), .bool true, undef, undef, vs 11, .pointer (some ⟨b0, i * 5, none⟩), .pointer (some ⟨b0, i * 5, none⟩), .pointer (some ⟨b0, i * 5 + 3, none⟩), .int .i64 2, .bool false, .bool false, .pointer (some ⟨b0, i * 5, none⟩), .pointer (some ⟨b0, i * 5, none⟩), .pointer (some ⟨b0, i * 5 + 3, none⟩), .int .i64 2, .bool false, .bool false, .bool false, .pointer (some ⟨b0, i * 5, none⟩), .pointer (some ⟨b0, i * 5, none⟩), .pointer (some ⟨b0, i * 5 + 3, none⟩), .int .i64 2, .bool true, .bool true, .bool true, .bool true, .bool true, vs 0, .pointer (some ⟨b0, i * 5, none⟩), vs 2, vs 3, vs 4, vs 5, vs 6, vs 7, vs 8, vs 9, vs 10, undef, undef, undef, undef], defers := [] } : Act); rw [e0]) rfl
  case refine_4 =>
    intro _ _ kk vs W hB hv
    have e1 : vs 1 = .pointer (some ⟨b0, i * 5, none⟩) := hv ⟨1, .data⟩ (by simp) rfl (by decide)
    clear hv
    simp only [e1]
    go_wp2
    exact PurePost.mk' (.pointer (some ⟨b0, i * 5 + 4, none⟩)) (by show _ = ({ tmps := #[.pointer (some ⟨b0, i * 5, none⟩), .bool true, undef, undef, vs 11, .pointer (some ⟨b0, i * 5, none⟩), .pointer (some ⟨b0, i * 5, none⟩), .pointer (some ⟨b0, i * 5 + 3, none⟩), .int .i64 2, .bool false, .bool false, .pointer (some ⟨b0, i * 5, none⟩), .pointer (some ⟨b0, i * 5, none⟩), .pointer (some ⟨b0, i * 5 + 3, none⟩), .int .i64 2, .bool false, .bool false, .bool false, .pointer (some ⟨b0, i * 5, none⟩), .pointer (some ⟨b0, i * 5, none⟩), .pointer (some ⟨b0, i * 5 + 3, none⟩), .int .i64 2, .bool true, .bool true, .bool true, .bool true, .bool true, vs 0, vs 1, .pointer (some ⟨b0, i * 5 + 4, none⟩), vs 3, vs 4, vs 5, vs 6, vs 7, vs 8, vs 9, vs 10, undef, undef, undef, undef], defers := [] } : Act); rw [e1]) rfl
  case refine_5 =>
    intro _ _ kk vs W hB hv
    have e2 : vs 2 = .pointer (some ⟨b0, i * 5 + 4, none⟩) := hv ⟨2, .data⟩ (by simp) rfl (by decide)
    have u4 := hcell.out W hB
    clear hv
    simp only [e2]
    go_wp2
    exact PurePost.mk' (.slice (some ⟨fb, 0, none⟩) n fc) (by first | (rw [← e2]; rfl) | (simp [upd, e2])) rfl
  case refine_6 =>
    intro _ _ kk vs W hB hv
    clear hv
    go_wp2
    exact PurePost.mk' (.pointer (some ⟨b0, i * 5, none⟩)) (by rfl) rfl
  case refine_7 =>
    intro _ _ kk vs W hB hv
    have e4 : vs 4 = .pointer (some ⟨b0, i * 5, none⟩) := hv ⟨4, .data⟩ (by simp) rfl (by decide)
    clear hv
    simp only [e4]
    go_wp2
    exact PurePost.mk' (.pointer (some ⟨b0, i * 5, none⟩)) (by show _ = ({ tmps := #[.pointer (some ⟨b0, i * 5, none⟩), .bool true, undef, undef, vs 11, .pointer (some ⟨b0, i * 5, none⟩), .pointer (some ⟨b0, i * 5, none⟩), .pointer (some ⟨b0, i * 5 + 3, none⟩), .int .i64 2, .bool false, .bool false, .pointer (some ⟨b0, i * 5, none⟩), .pointer (some ⟨b0, i * 5, none⟩), .pointer (some ⟨b0, i * 5 + 3, none⟩), .int .i64 2, .bool false, .bool false, .bool false, .pointer (some ⟨b0, i * 5, none⟩), .pointer (some ⟨b0, i * 5, none⟩), .pointer (some ⟨b0, i * 5 + 3, none⟩), .int .i64 2, .bool true, .bool true, .bool true, .bool true, .bool true, vs 0, vs 1, vs 2, vs 3, vs 4, .pointer (some ⟨b0, i * 5, none⟩), vs 6, vs 7, vs 8, vs 9, vs 10, undef, undef, undef, undef], defers := [] } : Act); rw [e4]) rfl
  case refine_8 =>
    intro _ _ kk vs W hB hv
    have e5 : vs 5 = .pointer (some ⟨b0, i * 5, none⟩) := hv ⟨5, .data⟩ (by simp) rfl (by decide)
    clear hv
    simp only [e5]
    go_wp2
    exact PurePost.mk' (.pointer (some ⟨b0, i * 5 + 4, none⟩)) (by show _ = ({ tmps := #[.pointer (some ⟨b0, i * 5, none⟩), .bool true, undef, undef, vs 11, .pointer (some ⟨b0, i * 5, none⟩), .pointer (some ⟨b0, i * 5, none⟩), .pointer (some ⟨b0, i * 5 + 3, none⟩), .int .i64 2, .bool false, .bool false, .pointer (some ⟨b0, i * 5, none⟩), .pointer (some ⟨b0, i * 5, none⟩), .pointer (some ⟨b0, i * 5 + 3, none⟩), .int .i64 2, .bool false, .bool false, .bool false, .pointer (some ⟨b0, i * 5, none⟩), .pointer (some ⟨b0, i * 5, none⟩), .pointer (some ⟨b0, i * 5 + 3, none⟩), .int .i64 2, .bool true, .bool true, .bool true, .bool true, .bool true, vs 0, vs 1, vs 2, vs 3, vs 4, vs 5, .pointer (some ⟨b0, i * 5 + 4, none⟩), vs 7, vs 8, vs 9, vs 10, undef, undef, undef, undef], defers := [] } : Act); rw [e5]) rfl
  case refine_9 =>
    intro _ _ kk vs W hB hv
    have e6 : vs 6 = .pointer (some ⟨b0, i * 5 + 4, none⟩) := hv ⟨6, .data⟩ (by simp) rfl (by decide)
    have u4 := hcell.out W hB
    clear hv
    simp only [e6]
    go_wp2
    exact PurePost.mk' (.slice (some ⟨fb, 0, none⟩) n fc) (by first | (rw [← e6]; rfl) | (simp [upd, e6])) rfl
  case refine_10 =>
    intro _ _ kk vs W hB hv
    have e7 : vs 7 = .slice (some ⟨fb, 0, none⟩) n fc := hv ⟨7, .data⟩ (by simp) rfl (by decide)
    clear hv
    simp only [e7]
    go_wp2
    exact PurePost.mk' (.int .i64 (n : Int)) (by first | (rw [← e7]; rfl) | (simp [upd, e7])) rfl
  case refine_11 =>
    intro _ _ kk vs W hB hv
    have e8 : vs 8 = .int .i64 (n : Int) := hv ⟨8, .data⟩ (by simp) rfl (by decide)
    clear hv
    simp only [e8]
    go_wp2
    exact PurePost.mk' (.int .i64 1) (by first | (rw [← e8]; rfl) | (simp [upd, e8])) rfl
  case refine_12 =>
    intro _ _ kk vs W hB hv
    have e3 : vs 3 = .slice (some ⟨fb, 0, none⟩) n fc := hv ⟨3, .data⟩ (by simp) rfl (by decide)
    have e9 : vs 9 = .int .i64 1 := hv ⟨9, .data⟩ (by simp) rfl (by decide)
    clear hv
    simp only [e3, e9]
    go_wp2
    exact PurePost.mk' (.slice (some ⟨fb, 1, none⟩) (n - 1) (fc - 1)) (by first | (rw [← e3, ← e9]; rfl) | (simp [upd, e3, e9])) rfl
  case refine_13 => exact fun _ h => absurd h (by simp)
  case refine_14 =>
    intro kk qq o hq
    simp at hq
  case refine_15 =>
    intro o ho vs W hB hv
    obtain rfl := Option.some.inj ho
    have e0 : vs 0 = .pointer (some ⟨b0, i * 5, none⟩) := hv 0 (by simp) (by simp)
    have e1 : vs 1 = .pointer (some ⟨b0, i * 5, none⟩) := hv 1 (by simp) (by simp)
    have e2 : vs 2 = .pointer (some ⟨b0, i * 5 + 4, none⟩) := hv 2 (by simp) (by simp)
    have e3 : vs 3 = .slice (some ⟨fb, 0, none⟩) n fc := hv 3 (by simp) (by simp)
    have e4 : vs 4 = .pointer (some ⟨b0, i * 5, none⟩) := hv 4 (by simp) (by simp)
    have e5 : vs 5 = .pointer (some ⟨b0, i * 5, none⟩) := hv 5 (by simp) (by simp)
    have e6 : vs 6 = .pointer (some ⟨b0, i * 5 + 4, none⟩) := hv 6 (by simp) (by simp)
    have e7 : vs 7 = .slice (some ⟨fb, 0, none⟩) n fc := hv 7 (by simp) (by simp)
    have e8 : vs 8 = .int .i64 (n : Int) := hv 8 (by simp) (by simp)
    have e9 : vs 9 = .int .i64 1 := hv 9 (by simp) (by simp)
    have e10 : vs 10 = .slice (some ⟨fb, 1, none⟩) (n - 1) (fc - 1) := hv 10 (by simp) (by simp)
    clear hv
    simp only [e0, e1, e2, e3, e4, e5, e6, e7, e8, e9, e10]
    clear e0 e1 e2 e3 e4 e5 e6 e7 e8 e9 e10
    go_wp2
    go_ret
    exact ⟨rfl, hB⟩
set_option maxRecDepth 100000 in
theorem leads3z (w : World) (b0 i fb n fc : Nat) (h3 : w.cell? ⟨b0, i * 5 + 3, none⟩ = some (.int .i64 3)) (h4 : w.cell? ⟨b0, i * 5 + 4, none⟩ = some (.slice (some ⟨fb, 0, none⟩) 0 0)) (hb : b0 < w.heap.size)  : Calls Try.prog 61 #[.pointer (some ⟨b0, i * 5, none⟩), .bool true] w fun e w' => e = .returned (.slice (some ⟨fb, 0, none⟩) 0 0) ∧ Below w.heap.size w w' := by
  have hcell : Hid (∀ W, Below w.heap.size w W → W.cell? ⟨b0, i * 5 + 4, none⟩ = some (.slice (some ⟨fb, 0, none⟩) 0 0)) := fun W hB => (hB.cell (p := ⟨b0, i * 5 + 4, none⟩) hb).trans h4
  go_enter Try.func61, Try.ntmps61
  go_upto_region 2 with fail
  refine wp_region_chain (by kernel_rfl) (fun vs => { tmps := #[.pointer (some ⟨b0, i * 5, none⟩), .bool true, undef, undef, vs 11, .pointer (some ⟨b0, i * 5, none⟩), .pointer (some ⟨b0, i * 5, none⟩), .pointer (some ⟨b0, i * 5 + 3, none⟩), .int .i64 3, .bool false, .bool false, .pointer (some ⟨b0, i * 5, none⟩), .pointer (some ⟨b0, i * 5, none⟩), .pointer (some ⟨b0, i * 5 + 3, none⟩), .int .i64 3, .bool true, .bool true, .bool true, undef, undef, undef, undef, undef, undef, undef, undef, .bool true, vs 0, vs 1, vs 2, vs 3, vs 4, vs 5, vs 6, vs 7, vs 8, vs 9, vs 10, undef, undef, undef, undef], defers := [] }) [] (lv1 [.pointer (some ⟨b0, i * 5, none⟩), .pointer (some ⟨b0, i * 5, none⟩), .pointer (some ⟨b0, i * 5 + 4, none⟩), .slice (some ⟨fb, 0, none⟩) 0 0, .pointer (some ⟨b0, i * 5, none⟩), .pointer (some ⟨b0, i * 5, none⟩), .pointer (some ⟨b0, i * 5 + 4, none⟩), .slice (some ⟨fb, 0, none⟩) 0 0, .int .i64 0, .int .i64 0, .slice (some ⟨fb, 0, none⟩) 0 0]) (fun _ _ W => Below w.heap.size w W) (fun i => if i = 11 then .slice none 0 0 else undef) rfl (by kernel_rfl) ?_ (fun _ _ _ _ _ _ h => h) (allAt_all ⟨?_, ?_, ?_, ?_, ?_, ?_, ?_, ?_, ?_, ?_, ?_, ?_, trivial⟩) ?_ ?_
  case refine_1 => exact Below.drew (Below.refl _ _)
  case refine_2 =>
    intro _ _ kk vs W hB hv
    clear hv
    go_wp2
    exact PurePost.mk' (.pointer (some ⟨b0, i * 5, none⟩)) (by rfl) rfl
  case refine_3 =>
    intro _ _ kk vs W hB hv
    have e0 : vs 0 = .pointer (some ⟨b0, i * 5, none⟩) := hv ⟨0, .data⟩ (by simp) rfl (by decide)
    clear hv
    simp only [e0]
    go_wp2
    exact PurePost.mk' (.pointer (some ⟨b0, i * 5, none⟩)) (by show _ = ({ tmps := #[.pointer (some ⟨b0, i * 5, none⟩), .bool true, undef, undef, vs 11, .pointer (some ⟨b0, i * 5, none⟩), .pointer (some ⟨b0, i * 5, none⟩), .pointer (some ⟨b0, i * 5 + 3, none⟩), .int .i64 3, .bool false, .bool false, .pointer (some ⟨b0, i * 5, none⟩), .pointer (some ⟨b0, i * 5, none⟩), .pointer (some ⟨b0, i * 5 + 3, none⟩), .int .i64 3, .bool true, .bool true, .bool true, undef, undef, undef, undef, undef, undef, undef, undef, .bool true, vs 0, .pointer (some ⟨b0, i * 5, none⟩), vs 2, vs 3, vs 4, vs 5, vs 6, vs 7, vs 8, vs 9, vs 10, undef, undef, undef, undef], defers := [] } : Act); rw [e0]) rfl
  case refine_4 =>
    intro _ _ kk vs W hB hv
    have e1 : vs 1 = .pointer (some ⟨b0, i * 5, none⟩) := hv ⟨1, .data⟩ (by simp) rfl (by decide)
    clear hv
    simp only [e1]
    go_wp2
    exact PurePost.mk' (.pointer (some ⟨b0, i * 5 + 4, none⟩)) (by show _ = ({ tmps := #[.pointer (some ⟨b0, i * 5, none⟩), .bool true, undef, undef, vs 11, .pointer (some ⟨b0, i * 5, none⟩), .pointer (some ⟨b0, i * 5, none⟩), .pointer (some ⟨b0, i * 5 + 3, none⟩), .int .i64 3, .bool false, .bool false, .pointer (some ⟨b0, i * 5, none⟩), .pointer (some ⟨b0, i * 5, none⟩), .pointer (some ⟨b0, i * 5 + 3, none⟩), .int .i64 3, .bool true, .bool true, .bool true, undef, undef, undef, undef, undef, undef, undef, undef, .bool true, vs 0, vs 1, .pointer (some ⟨b0, i * 5 + 4, none⟩), vs 3, vs 4, vs 5, vs 6, vs 7, vs 8, vs 9, vs 10, undef, undef, undef, undef], defers := [] } : Act); rw [e1]) rfl
  case refine_5 =>
    intro _ _ kk vs W hB hv
    have e2 : vs 2 = .pointer (some ⟨b0, i * 5 + 4, none⟩) := hv ⟨2, .data⟩ (by simp) rfl (by decide)
    have u4 := hcell.out W hB
    clear hv
    simp only [e2]
    go_wp2
    exact PurePost.mk' (.slice (some ⟨fb, 0, none⟩) 0 0) (by first | (rw [← e2]; rfl) | (simp [upd, e2])) rfl
  case refine_6 =>
    intro _ _ kk vs W hB hv
    clear hv
    go_wp2
    exact PurePost.mk' (.pointer (some ⟨b0, i * 5, none⟩)) (by rfl) rfl
  case refine_7 =>
    intro _ _ kk vs W hB hv
    have e4 : vs 4 = .pointer (some ⟨b0, i * 5, none⟩) := hv ⟨4, .data⟩ (by simp) rfl (by decide)
    clear hv
    simp only [e4]
    go_wp2
    exact PurePost.mk' (.pointer (some ⟨b0, i * 5, none⟩)) (by show _ = ({ tmps := #[.pointer (some ⟨b0, i * 5, none⟩), .bool true, undef, undef, vs 11, .pointer (some ⟨b0, i * 5, none⟩), .pointer (some ⟨b0, i * 5, none⟩), .pointer (some ⟨b0, i * 5 + 3, none⟩), .int .i64 3, .bool false, .bool false, .pointer (some ⟨b0, i * 5, none⟩), .pointer (some ⟨b0, i * 5, none⟩), .pointer (some ⟨b0, i * 5 + 3, none⟩), .int .i64 3, .bool true, .bool true, .bool true, undef, undef, undef, undef, undef, undef, undef, undef, .bool true, vs 0, vs 1, vs 2, vs 3, vs 4, .pointer (some ⟨b0, i * 5, none⟩), vs 6, vs 7, vs 8, vs 9, vs 10, undef, undef, undef, undef], defers := [] } : Act); rw [e4]) rfl
  case refine_8 =>
    intro _ _ kk vs W hB hv
    have e5 : vs 5 = .pointer (some ⟨b0, i * 5, none⟩) := hv ⟨5, .data⟩ (by simp) rfl (by decide)
    clear hv
    simp only [e5]
    go_wp2
    exact PurePost.mk' (.pointer (some ⟨b0, i * 5 + 4, none⟩)) (by show _ = ({ tmps := #[.pointer (some ⟨b0, i * 5, none⟩), .bool true, undef, undef, vs 11, .pointer (some ⟨b0, i * 5, none⟩), .pointer (some ⟨b0, i * 5, none⟩), .pointer (some ⟨b0, i * 5 + 3, none⟩), .int .i64 3, .bool false, .bool false, .pointer (some ⟨b0, i * 5, none⟩), .pointer (some ⟨b0, i * 5, none⟩), .pointer (some ⟨b0, i * 5 + 3, none⟩), .int .i64 3, .bool true, .bool true, .bool true, undef, undef, undef, undef, undef, undef, undef, undef, .bool true, vs 0, vs 1, vs 2, vs 3, vs 4, vs 5, .pointer (some ⟨b0, i * 5 + 4, none⟩), vs 7, vs 8, vs 9, vs 10, undef, undef, undef, undef], defers := [] } : Act); rw [e5]) rfl
  case refine_9 =>
    intro _ _ kk vs W hB hv
    have e6 : vs 6 = .pointer (some ⟨b0, i * 5 + 4, none⟩) := hv ⟨6, .data⟩ (by simp) rfl (by decide)
    have u4 := hcell.out W hB
    clear hv
    simp only [e6]
    go_wp2
    exact PurePost.mk' (.slice (some ⟨fb, 0, none⟩) 0 0) (by first | (rw [← e6]; rfl) | (simp [upd, e6])) rfl
  case refine_10 =>
    intro _ _ kk vs W hB hv
    have e7 : vs 7 = .slice (some ⟨fb, 0, none⟩) 0 0 := hv ⟨7, .data⟩ (by simp) rfl (by decide)
    clear hv
    simp only [e7]
    go_wp2
    exact PurePost.mk' (.int .i64 0) (by first | (rw [← e7]; rfl) | (simp [upd, e7])) rfl
  case refine_11 =>
    intro _ _ kk vs W hB hv
    have e8 : vs 8 = .int .i64 0 := hv ⟨8, .data⟩ (by simp) rfl (by decide)
    clear hv
    simp only [e8]
    go_wp2
    exact PurePost.mk' (.int .i64 0) (by show _ = ({ tmps := #[.pointer (some ⟨b0, i * 5, none⟩), .bool true, undef, undef, vs 11, .pointer (some ⟨b0, i * 5, none⟩), .pointer (some ⟨b0, i * 5, none⟩), .pointer (some ⟨b0, i * 5 + 3, none⟩), .int .i64 3, .bool false, .bool false, .pointer (some ⟨b0, i * 5, none⟩), .pointer (some ⟨b0, i * 5, none⟩), .pointer (some ⟨b0, i * 5 + 3, none⟩), .int .i64 3, .bool true, .bool true, .bool true, undef, undef, undef, undef, undef, undef, undef, undef, .bool true, vs 0, vs 1, vs 2, vs 3, vs 4, vs 5, vs 6, vs 7, vs 8, .int .i64 0, vs 10, undef, undef, undef, undef], defers := [] } : Act); rw [e8]) rfl
  case refine_12 =>
    intro _ _ kk vs W hB hv
    have e3 : vs 3 = .slice (some ⟨fb, 0, none⟩) 0 0 := hv ⟨3, .data⟩ (by simp) rfl (by decide)
    have e9 : vs 9 = .int .i64 0 := hv ⟨9, .data⟩ (by simp) rfl (by decide)
    clear hv
    simp only [e3, e9]
    go_wp2
    exact PurePost.mk' (.slice (some ⟨fb, 0, none⟩) 0 0) (by show _ = ({ tmps := #[.pointer (some ⟨b0, i * 5, none⟩), .bool true, undef, undef, vs 11, .pointer (some ⟨b0, i * 5, none⟩), .pointer (some ⟨b0, i * 5, none⟩), .pointer (some ⟨b0, i * 5 + 3, none⟩), .int .i64 3, .bool false, .bool false, .pointer (some ⟨b0, i * 5, none⟩), .pointer (some ⟨b0, i * 5, none⟩), .pointer (some ⟨b0, i * 5 + 3, none⟩), .int .i64 3, .bool true, .bool true, .bool true, undef, undef, undef, undef, undef, undef, undef, undef, .bool true, vs 0, vs 1, vs 2, vs 3, vs 4, vs 5, vs 6, vs 7, vs 8, vs 9, .slice (some ⟨fb, 0, none⟩) 0 0, undef, undef, undef, undef], defers := [] } : Act); rw [e3, e9]) rfl
  case refine_13 => exact fun _ h => absurd h (by simp)
  case refine_14 =>
    intro kk qq o hq
    simp at hq
  case refine_15 =>
    intro o ho vs W hB hv
    obtain rfl := Option.some.inj ho
    have e0 : vs 0 = .pointer (some ⟨b0, i * 5, none⟩) := hv 0 (by simp) (by simp)
    have e1 : vs 1 = .pointer (some ⟨b0, i * 5, none⟩) := hv 1 (by simp) (by simp)
    have e2 : vs 2 = .pointer (some ⟨b0, i * 5 + 4, none⟩) := hv 2 (by simp) (by simp)
    have e3 : vs 3 = .slice (some ⟨fb, 0, none⟩) 0 0 := hv 3 (by simp) (by simp)
    have e4 : vs 4 = .pointer (some ⟨b0, i * 5, none⟩) := hv 4 (by simp) (by simp)
    have e5 : vs 5 = .pointer (some ⟨b0, i * 5, none⟩) := hv 5 (by simp) (by simp)
    have e6 : vs 6 = .pointer (some ⟨b0, i * 5 + 4, none⟩) := hv 6 (by simp) (by simp)
    have e7 : vs 7 = .slice (some ⟨fb, 0, none⟩) 0 0 := hv 7 (by simp) (by simp)
    have e8 : vs 8 = .int .i64 0 := hv 8 (by simp) (by simp)
    have e9 : vs 9 = .int .i64 0 := hv 9 (by simp) (by simp)
    have e10 : vs 10 = .slice (some ⟨fb, 0, none⟩) 0 0 := hv 10 (by simp) (by simp)
    clear hv
    simp only [e0, e1, e2, e3, e4, e5, e6, e7, e8, e9, e10]
    clear e0 e1 e2 e3 e4 e5 e6 e7 e8 e9 e10
    go_wp2
    go_ret
    exact ⟨rfl, hB⟩
set_option maxRecDepth 100000 in
theorem leads3y (w : World) (b0 i fb n fc : Nat) (h3 : w.cell? ⟨b0, i * 5 + 3, none⟩ = some (.int .i64 3)) (h4 : w.cell? ⟨b0, i * 5 + 4, none⟩ = some (.slice (some ⟨fb, 0, none⟩) 0 fc)) (hb : b0 < w.heap.size) (hf : 0 < fc) : Calls Try.prog 61 #[.pointer (some ⟨b0, i * 5, none⟩), .bool true] w fun e w' => e = .returned (.slice (some ⟨fb, 0, none⟩) 0 fc) ∧ Below w.heap.size w w' := by
  have hcell : Hid (∀ W, Below w.heap.size w W → W.cell? ⟨b0, i * 5 + 4, none⟩ = some (.slice (some ⟨fb, 0, none⟩) 0 fc)) := fun W hB => (hB.cell (p := ⟨b0, i * 5 + 4, none⟩) hb).trans h4
  have hf1 : (0 : Int) < fc := by omega
  go_enter Try.func61, Try.ntmps61
  go_upto_region 2 with fail
  refine wp_region_chain (by kernel_rfl) (fun vs => { tmps := #[.pointer (some ⟨b0, i * 5, none⟩), .bool true, undef, undef, vs 11, .pointer (some ⟨b0, i * 5, none⟩), .pointer (some ⟨b0, i * 5, none⟩), .pointer (some ⟨b0, i * 5 + 3, none⟩), .int .i64 3, .bool false, .bool false, .pointer (some ⟨b0, i * 5, none⟩), .pointer (some ⟨b0, i * 5, none⟩), .pointer (some ⟨b0, i * 5 + 3, none⟩), .int .i64 3, .bool true, .bool true, .bool true, undef, undef, undef, undef, undef, undef, undef, undef, .bool true, vs 0, vs 1, vs 2, vs 3, vs 4, vs 5, vs 6, vs 7, vs 8, vs 9, vs 10, undef, undef, undef, undef], defers := [] }) [] (lv1 [.pointer (some ⟨b0, i * 5, none⟩), .pointer (some ⟨b0, i * 5, none⟩), .pointer (some ⟨b0, i * 5 + 4, none⟩), .slice (some ⟨fb, 0, none⟩) 0 fc, .pointer (some ⟨b0, i * 5, none⟩), .pointer (some ⟨b0, i * 5, none⟩), .pointer (some ⟨b0, i * 5 + 4, none⟩), .slice (some ⟨fb, 0, none⟩) 0 fc, .int .i64 0, .int .i64 0, .slice (some ⟨fb, 0, none⟩) 0 fc]) (fun _ _ W => Below w.heap.size w W) (fun i => if i = 11 then .slice none 0 0 else undef) rfl (by kernel_rfl) ?_ (fun _ _ _ _ _ _ h => h) (allAt_all ⟨?_, ?_, ?_, ?_, ?_, ?_, ?_, ?_, ?_, ?_, ?_, ?_, trivial⟩) ?_ ?_
  case refine_1 => exact Below.drew (Below.refl _ _)
  case refine_2 =>
    intro _ _ kk vs W hB hv
    clear hv
    go_wp2
    exact PurePost.mk' (.pointer (some ⟨b0, i * 5, none⟩)) (by rfl) rfl
  case refine_3 =>
    intro _ _ kk vs W hB hv
    have e0 : vs 0 = .pointer (some ⟨b0, i * 5, none⟩) := hv ⟨0, .data⟩ (by simp) rfl (by decide)
    clear hv
    simp only [e0]
    go_wp2
    exact PurePost.mk' (.pointer (some ⟨b0, i * 5, none⟩)) (by show _ = ({ tmps := #[.pointer (some ⟨b0, i * 5, none⟩), .bool true, undef, undef, vs 11, .pointer (some ⟨b0, i * 5, none⟩), .pointer (some ⟨b0, i * 5, none⟩), .pointer (some ⟨b0, i * 5 + 3, none⟩), .int .i64 3, .bool false, .bool false, .pointer (some ⟨b0, i * 5, none⟩), .pointer (some ⟨b0, i * 5, none⟩), .pointer (some ⟨b0, i * 5 + 3, none⟩), .int .i64 3, .bool true, .bool true, .bool true, undef, undef, undef, undef, undef, undef, undef, undef, .bool true, vs 0, .pointer (some ⟨b0, i * 5, none⟩), vs 2, vs 3, vs 4, vs 5, vs 6, vs 7, vs 8, vs 9, vs 10, undef, undef, undef, undef], defers := [] } : Act); rw [e0]) rfl
  case refine_4 =>
    intro _ _ kk vs W hB hv
    have e1 : vs 1 = .pointer (some ⟨b0, i * 5, none⟩) := hv ⟨1, .data⟩ (by simp) rfl (by decide)
    clear hv
    simp only [e1]
    go_wp2
    exact PurePost.mk' (.pointer (some ⟨b0, i * 5 + 4, none⟩)) (by show _ = ({ tmps := #[.pointer (some ⟨b0, i * 5, none⟩), .bool true, undef, undef, vs 11, .pointer (some ⟨b0, i * 5, none⟩), .pointer (some ⟨b0, i * 5, none⟩), .pointer (some ⟨b0, i * 5 + 3, none⟩), .int .i64 3, .bool false, .bool false, .pointer (some ⟨b0, i * 5, none⟩), .pointer (some ⟨b0, i * 5, none⟩), .pointer (some ⟨b0, i * 5 + 3, none⟩), .int .i64 3, .bool true, .bool true, .bool true, undef, undef, undef, undef, undef, undef, undef, undef, .bool true, vs 0, vs 1, .pointer (some ⟨b0, i * 5 + 4, none⟩), vs 3, vs 4, vs 5, vs 6, vs 7, vs 8, vs 9, vs 10, undef, undef, undef, undef], defers := [] } : Act); rw [e1]) rfl
  case refine_5 =>
    intro _ _ kk vs W hB hv
    have e2 : vs 2 = .pointer (some ⟨b0, i * 5 + 4, none⟩) := hv ⟨2, .data⟩ (by simp) rfl (by decide)
    have u4 := hcell.out W hB
    clear hv
    simp only [e2]
    go_wp2
    exact PurePost.mk' (.slice (some ⟨fb, 0, none⟩) 0 fc) (by first | (rw [← e2]; rfl) | (simp [upd, e2])) rfl
  case refine_6 =>
    intro _ _ kk vs W hB hv
    clear hv
    go_wp2
    exact PurePost.mk' (.pointer (some ⟨b0, i * 5, none⟩)) (by rfl) rfl
  case refine_7 =>
    intro _ _ kk vs W hB hv
    have e4 : vs 4 = .pointer (some ⟨b0, i * 5, none⟩) := hv ⟨4, .data⟩ (by simp) rfl (by decide)
    clear hv
    simp only [e4]
    go_wp2
    exact PurePost.mk' (.pointer (some ⟨b0, i * 5, none⟩)) (by show _ = ({ tmps := #[.pointer (some ⟨b0, i * 5, none⟩), .bool true, undef, undef, vs 11, .pointer (some ⟨b0, i * 5, none⟩), .pointer (some ⟨b0, i * 5, none⟩), .pointer (some ⟨b0, i * 5 + 3, none⟩), .int .i64 3, .bool false, .bool false, .pointer (some ⟨b0, i * 5, none⟩), .pointer (some ⟨b0, i * 5, none⟩), .pointer (some ⟨b0, i * 5 + 3, none⟩), .int .i64 3, .bool true, .bool true, .bool true, undef, undef, undef, undef, undef, undef, undef, undef, .bool true, vs 0, vs 1, vs 2, vs 3, vs 4, .pointer (some ⟨b0, i * 5, none⟩), vs 6, vs 7, vs 8, vs 9, vs 10, undef, undef, undef, undef], defers := [] } : Act); rw [e4]) rfl
  case refine_8 =>
    intro _ _ kk vs W hB hv
    have e5 : vs 5 = .pointer (some ⟨b0, i * 5, none⟩) := hv ⟨5, .data⟩ (by simp) rfl (by decide)
    clear hv
    simp only [e5]
    go_wp2
    exact PurePost.mk' (.pointer (some ⟨b0, i * 5 + 4, none⟩)) (by show _ = ({ tmps := #[.pointer (some ⟨b0, i * 5, none⟩), .bool true, undef, undef, vs 11, .pointer (some ⟨b0, i * 5, none⟩), .pointer (some ⟨b0, i * 5, none⟩), .pointer (some ⟨b0, i * 5 + 3, none⟩), .int .i64 3, .bool false, .bool false, .pointer (some ⟨b0, i * 5, none⟩), .pointer (some ⟨b0, i * 5, none⟩), .pointer (some ⟨b0, i * 5 + 3, none⟩), .int .i64 3, .bool true, .bool true, .bool true, undef, undef, undef, undef, undef, undef, undef, undef, .bool true, vs 0, vs 1, vs 2, vs 3, vs 4, vs 5, .pointer (some ⟨b0, i * 5 + 4, none⟩), vs 7, vs 8, vs 9, vs 10, undef, undef, undef, undef], defers := [] } : Act); rw [e5]) rfl
  case refine_9 =>
    intro _ _ kk vs W hB hv
    have e6 : vs 6 = .pointer (some ⟨b0, i * 5 + 4, none⟩) := hv ⟨6, .data⟩ (by simp) rfl (by decide)
    have u4 := hcell.out W hB
    clear hv
    simp only [e6]
    go_wp2
    exact PurePost.mk' (.slice (some ⟨fb, 0, none⟩) 0 fc) (by first | (rw [← e6]; rfl) | (simp [upd, e6])) rfl
  case refine_10 =>
    intro _ _ kk vs W hB hv
    have e7 : vs 7 = .slice (some ⟨fb, 0, none⟩) 0 fc := hv ⟨7, .data⟩ (by simp) rfl (by decide)
    clear hv
    simp only [e7]
    go_wp2
    exact PurePost.mk' (.int .i64 0) (by first | (rw [← e7]; rfl) | (simp [upd, e7])) rfl
  case refine_11 =>
    intro _ _ kk vs W hB hv
    have e8 : vs 8 = .int .i64 0 := hv ⟨8, .data⟩ (by simp) rfl (by decide)
    clear hv
    simp only [e8]
    go_wp2
    exact PurePost.mk' (.int .i64 0) (by show _ = ({ tmps := #[.pointer (some ⟨b0, i * 5, none⟩), .bool true, undef, undef, vs 11, .pointer (some ⟨b0, i * 5, none⟩), .pointer (some ⟨b0, i * 5, none⟩), .pointer (some ⟨b0, i * 5 + 3, none⟩), .int .i64 3, .bool false, .bool false, .pointer (some ⟨b0, i * 5, none⟩), .pointer (some ⟨b0, i * 5, none⟩), .pointer (some ⟨b0, i * 5 + 3, none⟩), .int .i64 3, .bool true, .bool true, .bool true, undef, undef, undef, undef, undef, undef, undef, undef, .bool true, vs 0, vs 1, vs 2, vs 3, vs 4, vs 5, vs 6, vs 7, vs 8, .int .i64 0, vs 10, undef, undef, undef, undef], defers := [] } : Act); rw [e8]) rfl
  case refine_12 =>
    intro _ _ kk vs W hB hv
    have e3 : vs 3 = .slice (some ⟨fb, 0, none⟩) 0 fc := hv ⟨3, .data⟩ (by simp) rfl (by decide)
    have e9 : vs 9 = .int .i64 0 := hv ⟨9, .data⟩ (by simp) rfl (by decide)
    clear hv
    simp only [e3, e9]
    go_wp2
    exact PurePost.mk' (.slice (some ⟨fb, 0, none⟩) 0 fc) (by show _ = ({ tmps := #[.pointer (some ⟨b0, i * 5, none⟩), .bool true, undef, undef, vs 11, .pointer (some ⟨b0, i * 5, none⟩), .pointer (some ⟨b0, i * 5, none⟩), .pointer (some ⟨b0, i * 5 + 3, none⟩), .int .i64 3, .bool false, .bool false, .pointer (some ⟨b0, i * 5, none⟩), .pointer (some ⟨b0, i * 5, none⟩), .pointer (some ⟨b0, i * 5 + 3, none⟩), .int .i64 3, .bool true, .bool true, .bool true, undef, undef, undef, undef, undef, undef, undef, undef, .bool true, vs 0, vs 1, vs 2, vs 3, vs 4, vs 5, vs 6, vs 7, vs 8, vs 9, .slice (some ⟨fb, 0, none⟩) 0 fc, undef, undef, undef, undef], defers := [] } : Act); rw [e3, e9]) rfl
  case refine_13 => exact fun _ h => absurd h (by simp)
  case refine_14 =>
    intro kk qq o hq
    simp at hq
  case refine_15 =>
    intro o ho vs W hB hv
    obtain rfl := Option.some.inj ho
    have e0 : vs 0 = .pointer (some ⟨b0, i * 5, none⟩) := hv 0 (by simp) (by simp)
    have e1 : vs 1 = .pointer (some ⟨b0, i * 5, none⟩) := hv 1 (by simp) (by simp)
    have e2 : vs 2 = .pointer (some ⟨b0, i * 5 + 4, none⟩) := hv 2 (by simp) (by simp)
    have e3 : vs 3 = .slice (some ⟨fb, 0, none⟩) 0 fc := hv 3 (by simp) (by simp)
    have e4 : vs 4 = .pointer (some ⟨b0, i * 5, none⟩) := hv 4 (by simp) (by simp)
    have e5 : vs 5 = .pointer (some ⟨b0, i * 5, none⟩) := hv 5 (by simp) (by simp)
    have e6 : vs 6 = .pointer (some ⟨b0, i * 5 + 4, none⟩) := hv 6 (by simp) (by simp)
    have e7 : vs 7 = .slice (some ⟨fb, 0, none⟩) 0 fc := hv 7 (by simp) (by simp)
    have e8 : vs 8 = .int .i64 0 := hv 8 (by simp) (by simp)
    have e9 : vs 9 = .int .i64 0 := hv 9 (by simp) (by simp)
    have e10 : vs 10 = .slice (some ⟨fb, 0, none⟩) 0 fc := hv 10 (by simp) (by simp)
    clear hv
    simp only [e0, e1, e2, e3, e4, e5, e6, e7, e8, e9, e10]
    clear e0 e1 e2 e3 e4 e5 e6 e7 e8 e9 e10
    go_wp2
    go_ret
    exact ⟨rfl, hB⟩
set_option maxRecDepth 100000 in
theorem leads3x (w : World) (b0 i fb n fc : Nat) (h3 : w.cell? ⟨b0, i * 5 + 3, none⟩ = some (.int .i64 3)) (h4 : w.cell? ⟨b0, i * 5 + 4, none⟩ = some (.slice (some ⟨fb, 0, none⟩) 1 1)) (hb : b0 < w.heap.size)  : Calls Try.prog 61 #[.pointer (some ⟨b0, i * 5, none⟩), .bool true] w fun e w' => e = .returned (.slice (some ⟨fb, 0, none⟩) 0 0) ∧ Below w.heap.size w w' := by
  have hcell : Hid (∀ W, Below w.heap.size w W → W.cell? ⟨b0, i * 5 + 4, none⟩ = some (.slice (some ⟨fb, 0, none⟩) 1 1)) := fun W hB => (hB.cell (p := ⟨b0, i * 5 + 4, none⟩) hb).trans h4
  go_enter Try.func61, Try.ntmps61
  go_upto_region 2 with fail
  refine wp_region_chain (by kernel_rfl) (fun vs => { tmps := #[.pointer (some ⟨b0, i * 5, none⟩), .bool true, undef, undef, vs 11, .pointer (some ⟨b0, i * 5, none⟩), .pointer (some ⟨b0, i * 5, none⟩), .pointer (some ⟨b0, i * 5 + 3, none⟩), .int .i64 3, .bool false, .bool false, .pointer (some ⟨b0, i * 5, none⟩), .pointer (some ⟨b0, i * 5, none⟩), .pointer (some ⟨b0, i * 5 + 3, none⟩), .int .i64 3, .bool true, .bool true, .bool true, undef, undef, undef, undef, undef, undef, undef, undef, .bool true, vs 0, vs 1, vs 2, vs 3, vs 4, vs 5, vs 6, vs 7, vs 8, vs 9, vs 10, undef, undef, undef, undef], defers := [] }) [] (lv1 [.pointer (some ⟨b0, i * 5, none⟩), .pointer (some ⟨b0, i * 5, none⟩), .pointer (some ⟨b0, i * 5 + 4, none⟩), .slice (some ⟨fb, 0, none⟩) 1 1, .pointer (some ⟨b0, i * 5, none⟩), .pointer (some ⟨b0, i * 5, none⟩), .pointer (some ⟨b0, i * 5 + 4, none⟩), .slice (some ⟨fb, 0, none⟩) 1 1, .int .i64 1, .int .i64 1, .slice (some ⟨fb, 0, none⟩) 0 0]) (fun _ _ W => Below w.heap.size w W) (fun i => if i = 11 then .slice none 0 0 else undef) rfl (by kernel_rfl) ?_ (fun _ _ _ _ _ _ h => h) (allAt_all ⟨?_, ?_, ?_, ?_, ?_, ?_, ?_, ?_, ?_, ?_, ?_, ?_, trivial⟩) ?_ ?_
  case refine_1 => exact Below.drew (Below.refl _ _)
  case refine_2 =>
    intro _ _ kk vs W hB hv
    clear hv
    go_wp2
    exact PurePost.mk' (.pointer (some ⟨b0, i * 5, none⟩)) (by rfl) rfl
  case refine_3 =>
    intro _ _ kk vs W hB hv
    have e0 : vs 0 = .pointer (some ⟨b0, i * 5, none⟩) := hv ⟨0, .data⟩ (by simp) rfl (by decide)
    clear hv
    simp only [e0]
    go_wp2
    exact PurePost.mk' (.pointer (some ⟨b0, i * 5, none⟩)) (by show _ = ({ tmps := #[.pointer (some ⟨b0, i * 5, none⟩), .bool true, undef, undef, vs 11, .pointer (some ⟨b0, i * 5, none⟩), .pointer (some ⟨b0, i * 5, none⟩), .pointer (some ⟨b0, i * 5 + 3, none⟩), .int .i64 3, .bool false, .bool false, .pointer (some ⟨b0, i * 5, none⟩), .pointer (some ⟨b0, i * 5, none⟩), .pointer (some ⟨b0, i * 5 + 3, none⟩), .int .i64 3, .bool true, .bool true, .bool true, undef, undef, undef, undef, undef, undef, undef, undef, .bool true, vs 0, .pointer (some ⟨b0, i * 5, none⟩), vs 2, vs 3, vs 4, vs 5, vs 6, vs 7, vs 8, vs 9, vs 10, undef, undef, undef, undef], defers := [] } : Act); rw [e0]) rfl
  case refine_4 =>
    intro _ _ kk vs W hB hv
    have e1 : vs 1 = .pointer (some ⟨b0, i * 5, none⟩) := hv ⟨1, .data⟩ (by simp) rfl (by decide)
    clear hv
    simp only [e1]
    go_wp2
    exact PurePost.mk' (.pointer (some ⟨b0, i * 5 + 4, none⟩)) (by show _ = ({ tmps := #[.pointer (some ⟨b0, i * 5, none⟩), .bool true, undef, undef, vs 11, .pointer (some ⟨b0, i * 5, none⟩), .pointer (some ⟨b0, i * 5, none⟩), .pointer (some ⟨b0, i * 5 + 3, none⟩), .int .i64 3, .bool false, .bool false, .pointer (some ⟨b0, i * 5, none⟩), .pointer (some ⟨b0, i * 5, none⟩), .pointer (some ⟨b0, i * 5 + 3, none⟩), .int .i64 3, .bool true, .bool true, .bool true, undef, undef, undef, undef, undef, undef, undef, undef, .bool true, vs 0, vs 1, .pointer (some ⟨b0, i * 5 + 4, none⟩), vs 3, vs 4, vs 5, vs 6, vs 7, vs 8, vs 9, vs 10, undef, undef, undef, undef], defers := [] } : Act); rw [e1]) rfl
  case refine_5 =>
    intro _ _ kk vs W hB hv
    have e2 : vs 2 = .pointer (some ⟨b0, i * 5 + 4, none⟩) := hv ⟨2, .data⟩ (by simp) rfl (by decide)
    have u4 := hcell.out W hB
    clear hv
    simp only [e2]
    go_wp2
    exact PurePost.mk' (.slice (some ⟨fb, 0, none⟩) 1 1) (by first | (rw [← e2]; rfl) | (simp [upd, e2])) rfl
  case refine_6 =>
    intro _ _ kk vs W hB hv
    clear hv
    go_wp2
    exact PurePost.mk' (.pointer (some ⟨b0, i * 5, none⟩)) (by rfl) rfl
  case refine_7 =>
    intro _ _ kk vs W hB hv
    have e4 : vs 4 = .pointer (some ⟨b0, i * 5, none⟩) := hv ⟨4, .data⟩ (by simp) rfl (by decide)
    clear hv
    simp only [e4]
    go_wp2
    exact PurePost.mk' (.pointer (some ⟨b0, i * 5, none⟩)) (by show _ = ({ tmps := #[.pointer (some ⟨b0, i * 5, none⟩), .bool true, undef, undef, vs 11, .pointer (some ⟨b0, i * 5, none⟩), .pointer (some ⟨b0, i * 5, none⟩), .pointer (some ⟨b0, i * 5 + 3, none⟩), .int .i64 3, .bool false, .bool false, .pointer (some ⟨b0, i * 5, none⟩), .pointer (some ⟨b0, i * 5, none⟩), .pointer (some ⟨b0, i * 5 + 3, none⟩), .int .i64 3, .bool true, .bool true, .bool true, undef, undef, undef, undef, undef, undef, undef, undef, .bool true, vs 0, vs 1, vs 2, vs 3, vs 4, .pointer (some ⟨b0, i * 5, none⟩), vs 6, vs 7, vs 8, vs 9, vs 10, undef, undef, undef, undef], defers := [] } : Act); rw [e4]) rfl
  case refine_8 =>
    intro _ _ kk vs W hB hv
    have e5 : vs 5 = .pointer (some ⟨b0, i * 5, none⟩) := hv ⟨5, .data⟩ (by simp) rfl (by decide)
    clear hv
    simp only [e5]
    go_wp2
    exact PurePost.mk' (.pointer (some ⟨b0, i * 5 + 4, none⟩)) (by show _ = ({ tmps := #[.pointer (some ⟨b0, i * 5, none⟩), .bool true, undef, undef, vs 11, .pointer (some ⟨b0, i * 5, none⟩), .pointer (some ⟨b0, i * 5, none⟩), .pointer (some ⟨b0, i * 5 + 3, none⟩), .int .i64 3, .bool false, .bool false, .pointer (some ⟨b0, i * 5, none⟩), .pointer (some ⟨b0, i * 5, none⟩), .pointer (some ⟨b0, i * 5 + 3, none⟩), .int .i64 3, .bool true, .bool true, .bool true, undef, undef, undef, undef, undef, undef, undef, undef, .bool true, vs 0, vs 1, vs 2, vs 3, vs 4, vs 5, .pointer (some ⟨b0, i * 5 + 4, none⟩), vs 7, vs 8, vs 9, vs 10, undef, undef, undef, undef], defers := [] } : Act); rw [e5]) rfl
  case refine_9 =>
    intro _ _ kk vs W hB hv
    have e6 : vs 6 = .pointer (some ⟨b0, i * 5 + 4, none⟩) := hv ⟨6, .data⟩ (by simp) rfl (by decide)
    have u4 := hcell.out W hB
    clear hv
    simp only [e6]
    go_wp2
    exact PurePost.mk' (.slice (some ⟨fb, 0, none⟩) 1 1) (by first | (rw [← e6]; rfl) | (simp [upd, e6])) rfl
  case refine_10 =>
    intro _ _ kk vs W hB hv
    have e7 : vs 7 = .slice (some ⟨fb, 0, none⟩) 1 1 := hv ⟨7, .data⟩ (by simp) rfl (by decide)
    clear hv
    simp only [e7]
    go_wp2
    exact PurePost.mk' (.int .i64 1) (by first | (rw [← e7]; rfl) | (simp [upd, e7])) rfl
  case refine_11 =>
    intro _ _ kk vs W hB hv
    have e8 : vs 8 = .int .i64 1 := hv ⟨8, .data⟩ (by simp) rfl (by decide)
    clear hv
    simp only [e8]
    go_wp2
    exact PurePost.mk' (.int .i64 1) (by show _ = ({ tmps := #[.pointer (some ⟨b0, i * 5, none⟩), .bool true, undef, undef, vs 11, .pointer (some ⟨b0, i * 5, none⟩), .pointer (some ⟨b0, i * 5, none⟩), .pointer (some ⟨b0, i * 5 + 3, none⟩), .int .i64 3, .bool false, .bool false, .pointer (some ⟨b0, i * 5, none⟩), .pointer (some ⟨b0, i * 5, none⟩), .pointer (some ⟨b0, i * 5 + 3, none⟩), .int .i64 3, .bool true, .bool true, .bool true, undef, undef, undef, undef, undef, undef, undef, undef, .bool true, vs 0, vs 1, vs 2, vs 3, vs 4, vs 5, vs 6, vs 7, vs 8, .int .i64 1, vs 10, undef, undef, undef, undef], defers := [] } : Act); rw [e8]) rfl
  case refine_12 =>
    intro _ _ kk vs W hB hv
    have e3 : vs 3 = .slice (some ⟨fb, 0, none⟩) 1 1 := hv ⟨3, .data⟩ (by simp) rfl (by decide)
    have e9 : vs 9 = .int .i64 1 := hv ⟨9, .data⟩ (by simp) rfl (by decide)
    clear hv
    simp only [e3, e9]
    go_wp2
    exact PurePost.mk' (.slice (some ⟨fb, 0, none⟩) 0 0) (by first | (rw [← e3, ← e9]; rfl) | (simp [upd, e3, e9])) rfl
  case refine_13 => exact fun _ h => absurd h (by simp)
  case refine_14 =>
    intro kk qq o hq
    simp at hq
  case refine_15 =>
    intro o ho vs W hB hv
    obtain rfl := Option.some.inj ho
    have e0 : vs 0 = .pointer (some ⟨b0, i * 5, none⟩) := hv 0 (by simp) (by simp)
    have e1 : vs 1 = .pointer (some ⟨b0, i * 5, none⟩) := hv 1 (by simp) (by simp)
    have e2 : vs 2 = .pointer (some ⟨b0, i * 5 + 4, none⟩) := hv 2 (by simp) (by simp)
    have e3 : vs 3 = .slice (some ⟨fb, 0, none⟩) 1 1 := hv 3 (by simp) (by simp)
    have e4 : vs 4 = .pointer (some ⟨b0, i * 5, none⟩) := hv 4 (by simp) (by simp)
    have e5 : vs 5 = .pointer (some ⟨b0, i * 5, none⟩) := hv 5 (by simp) (by simp)
    have e6 : vs 6 = .pointer (some ⟨b0, i * 5 + 4, none⟩) := hv 6 (by simp) (by simp)
    have e7 : vs 7 = .slice (some ⟨fb, 0, none⟩) 1 1 := hv 7 (by simp) (by simp)
    have e8 : vs 8 = .int .i64 1 := hv 8 (by simp) (by simp)
    have e9 : vs 9 = .int .i64 1 := hv 9 (by simp) (by simp)
    have e10 : vs 10 = .slice (some ⟨fb, 0, none⟩) 0 0 := hv 10 (by simp) (by simp)
    clear hv
    simp only [e0, e1, e2, e3, e4, e5, e6, e7, e8, e9, e10]
    clear e0 e1 e2 e3 e4 e5 e6 e7 e8 e9 e10
    go_wp2
    go_ret
    exact ⟨rfl, hB⟩
set_option maxRecDepth 100000 in
theorem leads3w (w : World) (b0 i fb n fc : Nat) (h3 : w.cell? ⟨b0, i * 5 + 3, none⟩ = some (.int .i64 3)) (h4 : w.cell? ⟨b0, i * 5 + 4, none⟩ = some (.slice (some ⟨fb, 0, none⟩) n fc)) (hb : b0 < w.heap.size) (hn : 1 ≤ n) (hf : 2 ≤ fc) (hnf : n ≤ fc) : Calls Try.prog 61 #[.pointer (some ⟨b0, i * 5, none⟩), .bool true] w fun e w' => e = .returned (.slice (some ⟨fb, 1, none⟩) (n - 1) (fc - 1)) ∧ Below w.heap.size w w' := by
  have hcell : Hid (∀ W, Below w.heap.size w W → W.cell? ⟨b0, i * 5 + 4, none⟩ = some (.slice (some ⟨fb, 0, none⟩) n fc)) := fun W hB => (hB.cell (p := ⟨b0, i * 5 + 4, none⟩) hb).trans h4
  have hn1 : (1 : Int) ≤ n := by omega
  have hf1 : (2 : Int) ≤ fc := by omega
  have hnf1 : (n : Int) ≤ fc := by omega
  go_enter Try.func61, Try.ntmps61
  go_upto_region 2 with fail
  refine wp_region_chain (by kernel_rfl) (fun vs => { tmps := #[.pointer (some ⟨b0, i * 5, none⟩), .bool true, undef, undef, vs 11, .pointer (some ⟨b0, i * 5, none⟩), .pointer (some ⟨b0, i * 5, none⟩), .pointer (some ⟨b0, i * 5 + 3, none⟩), .int .i64 3, .bool false, .bool false, .pointer (some ⟨b0, i * 5, none⟩), .pointer (some ⟨b0, i * 5, none⟩), .pointer (some ⟨b0, i * 5 + 3, none⟩), .int .i64 3, .bool true, .bool true, .bool true, undef, undef, undef, undef, undef, undef, undef, undef, .bool true, vs 0, vs 1, vs 2, vs 3, vs 4, vs 5, vs 6, vs 7, vs 8, vs 9, vs 10, undef, undef, undef, undef], defers := [] }) [] (lv1 [.pointer (some ⟨b0, i * 5, none⟩), .pointer (some ⟨b0, i * 5, none⟩), .pointer (some ⟨b0, i * 5 + 4, none⟩), .slice (some ⟨fb, 0, none⟩) n fc, .pointer (some ⟨b0, i * 5, none⟩), .pointer (some ⟨b0, i * 5, none⟩), .pointer (some ⟨b0, i * 5 + 4, none⟩), .slice (some ⟨fb, 0, none⟩) n fc, .int .i64 (n : Int), .int .i64 1, .slice (some ⟨fb, 1, none⟩) (n - 1) (fc - 1)]) (fun _ _ W => Below w.heap.size w W) (fun i => if i = 11 then .slice none 0 0 else undef) rfl (by kernel_rfl) ?_ (fun _ _ _ _ _ _ h => h) (allAt_all ⟨?_, ?_, ?_, ?_, ?_, ?_, ?_, ?_, ?_, ?_, ?_, ?_, trivial⟩) ?_ ?_
  case refine_1 => exact Below.drew (Below.refl _ _)
  case refine_2 =>
    intro _ _ kk vs W hB hv
    clear hv
    go_wp2
    exact PurePost.mk' (.pointer (some ⟨b0, i * 5, none⟩)) (by rfl) rfl
  case refine_3 =>
    intro _ _ kk vs W hB hv
    have e0 : vs 0 = .pointer (some ⟨b0, i * 5, none⟩) := hv ⟨0, .data⟩ (by simp) rfl (by decide)
    clear hv
    simp only [e0]
    go_wp2
    exact PurePost.mk' (.pointer (some ⟨b0, i * 5, none⟩)) (by show _ = ({ tmps := #[.pointer (some ⟨b0, i * 5, none⟩), .bool true, undef, undef, vs 11, .pointer (some ⟨b0, i * 5, none⟩), .pointer (some ⟨b0, i * 5, none⟩), .pointer (some ⟨b0, i * 5 + 3, none⟩), .int .i64 3, .bool false, .bool false, .pointer (some ⟨b0, i * 5, none⟩), .pointer (some ⟨b0, i * 5, none⟩), .pointer (some ⟨b0, i * 5 + 3, none⟩), .int .i64 3, .bool true, .bool true, .bool true, undef, undef, undef, undef, undef, undef, undef, undef, .bool true, vs 0, .pointer (some ⟨b0, i * 5, none⟩), vs 2, vs 3, vs 4, vs 5, vs 6, vs 7, vs 8, vs 9, vs 10, undef, undef, undef, undef], defers := [] } : Act); rw [e0]) rfl
  case refine_4 =>
    intro _ _ kk vs W hB hv
    have e1 : vs 1 = .pointer (some ⟨b0, i * 5, none⟩) := hv ⟨1, .data⟩ (by simp) rfl (by decide)
    clear hv
    simp only [e1]
    go_wp2
    exact PurePost.mk' (.pointer (some ⟨b0, i * 5 + 4, none⟩)) (by show _ = ({ tmps := #[.pointer (some ⟨b0, i * 5, none⟩), .bool true, undef, undef, vs 11, .pointer (some ⟨b0, i * 5, none⟩), .pointer (some ⟨b0, i * 5, none⟩), .pointer (some ⟨b0, i * 5 + 3, none⟩), .int .i64 3, .bool false, .bool false, .pointer (some ⟨b0, i * 5, none⟩), .pointer (some ⟨b0, i * 5, none⟩), .pointer (some ⟨b0, i * 5 + 3, none⟩), .int .i64 3, .bool true, .bool true, .bool true, undef, undef, undef, undef, undef, undef, undef, undef, .bool true, vs 0, vs 1, .pointer (some ⟨b0, i * 5 + 4, none⟩), vs 3, vs 4, vs 5, vs 6, vs 7, vs 8, vs 9, vs 10, undef, undef, undef, undef], defers := [] } : Act); rw [e1]) rfl
  case refine_5 =>
    intro _ _ kk vs W hB hv
    have e2 : vs 2 = .pointer (some ⟨b0, i * 5 + 4, none⟩) := hv ⟨2, .data⟩ (by simp) rfl (by decide)
    have u4 := hcell.out W hB
    clear hv
    simp only [e2]
    go_wp2
    exact PurePost.mk' (.slice (some ⟨fb, 0, none⟩) n fc) (by first | (rw [← e2]; rfl) | (simp [upd, e2])) rfl
  case refine_6 =>
    intro _ _ kk vs W hB hv
    clear hv
    go_wp2
    exact PurePost.mk' (.pointer (some ⟨b0, i * 5, none⟩)) (by rfl) rfl
  case refine_7 =>
    intro _ _ kk vs W hB hv
    have e4 : vs 4 = .pointer (some ⟨b0, i * 5, none⟩) := hv ⟨4, .data⟩ (by simp) rfl (by decide)
    clear hv
    simp only [e4]
    go_wp2
    exact PurePost.mk' (.pointer (some ⟨b0, i * 5, none⟩)) (by show _ = ({ tmps := #[.pointer (some ⟨b0, i * 5, none⟩), .bool true, undef, undef, vs 11, .pointer (some ⟨b0, i * 5, none⟩), .pointer (some ⟨b0, i * 5, none⟩), .pointer (some ⟨b0, i * 5 + 3, none⟩), .int .i64 3, .bool false, .bool false, .pointer (some ⟨b0, i * 5, none⟩), .pointer (some ⟨b0, i * 5, none⟩), .pointer (some ⟨b0, i * 5 + 3, none⟩), .int .i64 3, .bool true, .bool true, .bool true, undef, undef, undef, undef, undef, undef, undef, undef, .bool true, vs 0, vs 1, vs 2, vs 3, vs 4, .pointer (some ⟨b0, i * 5, none⟩), vs 6, vs 7, vs 8, vs 9, vs 10, undef, undef, undef, undef], defers := [] } : Act); rw [e4]) rfl
  case refine_8 =>
    intro _ _ kk vs W hB hv
    have e5 : vs 5 = .pointer (some ⟨b0, i * 5, none⟩) := hv ⟨5, .data⟩ (by simp) rfl (by decide)
    clear hv
    simp only [e5]
    go_wp2
    exact PurePost.mk' (.pointer (some ⟨b0, i * 5 + 4, none⟩)) (by show _ = ({ tmps := #[.pointer (some ⟨b0, i * 5, none⟩), .bool true, undef, undef, vs 11, .pointer (some ⟨b0, i * 5, none⟩), .pointer (some ⟨b0, i * 5, none⟩), .pointer (some ⟨b0, i * 5 + 3, none⟩), .int .i64 3, .bool false, .bool false, .pointer (some ⟨b0, i * 5, none⟩), .pointer (some ⟨b0, i * 5, none⟩), .pointer (some ⟨b0, i * 5 + 3, none⟩), .int .i64 3, .bool true, .bool true, .bool true, undef, undef, undef, undef, undef, undef, undef, undef, .bool true, vs 0, vs 1, vs 2, vs 3, vs 4, vs 5, .pointer (some ⟨b0, i * 5 + 4, none⟩), vs 7, vs 8, vs 9, vs 10, undef, undef, undef, undef], defers := [] } : Act); rw [e5]) rfl
  case refine_9 =>
    intro _ _ kk vs W hB hv
    have e6 : vs 6 = .pointer (some ⟨b0, i * 5 + 4, none⟩) := hv ⟨6, .data⟩ (by simp) rfl (by decide)
    have u4 := hcell.out W hB
    clear hv
    simp only [e6]
    go_wp2
    exact PurePost.mk' (.slice (some ⟨fb, 0, none⟩) n fc) (by first | (rw [← e6]; rfl) | (simp [upd, e6])) rfl
  case refine_10 =>
    intro _ _ kk vs W hB hv
    have e7 : vs 7 = .slice (some ⟨fb, 0, none⟩) n fc := hv ⟨7, .data⟩ (by simp) rfl (by decide)
    clear hv
    simp only [e7]
    go_wp2
    exact PurePost.mk' (.int .i64 (n : Int)) (by first | (rw [← e7]; rfl) | (simp [upd, e7])) rfl
  case refine_11 =>
    intro _ _ kk vs W hB hv
    have e8 : vs 8 = .int .i64 (n : Int) := hv ⟨8, .data⟩ (by simp) rfl (by decide)
    clear hv
    simp only [e8]
    go_wp2
    exact PurePost.mk' (.int .i64 1) (by first | (rw [← e8]; rfl) | (simp [upd, e8])) rfl
  case refine_12 =>
    intro _ _ kk vs W hB hv
    have e3 : vs 3 = .slice (some ⟨fb, 0, none⟩) n fc := hv ⟨3, .data⟩ (by simp) rfl (by decide)
    have e9 : vs 9 = .int .i64 1 := hv ⟨9, .data⟩ (by simp) rfl (by decide)
    clear hv
    simp only [e3, e9]
    go_wp2
    exact PurePost.mk' (.slice (some ⟨fb, 1, none⟩) (n - 1) (fc - 1)) (by first | (rw [← e3, ← e9]; rfl) | (simp [upd, e3, e9])) rfl
  case refine_13 => exact fun _ h => absurd h (by simp)
  case refine_14 =>
    intro kk qq o hq
    simp at hq
  case refine_15 =>
    intro o ho vs W hB hv
    obtain rfl := Option.some.inj ho
    have e0 : vs 0 = .pointer (some ⟨b0, i * 5, none⟩) := hv 0 (by simp) (by simp)
    have e1 : vs 1 = .pointer (some ⟨b0, i * 5, none⟩) := hv 1 (by simp) (by simp)
    have e2 : vs 2 = .pointer (some ⟨b0, i * 5 + 4, none⟩) := hv 2 (by simp) (by simp)
    have e3 : vs 3 = .slice (some ⟨fb, 0, none⟩) n fc := hv 3 (by simp) (by simp)
    have e4 : vs 4 = .pointer (some ⟨b0, i * 5, none⟩) := hv 4 (by simp) (by simp)
    have e5 : vs 5 = .pointer (some ⟨b0, i * 5, none⟩) := hv 5 (by simp) (by simp)
    have e6 : vs 6 = .pointer (some ⟨b0, i * 5 + 4, none⟩) := hv 6 (by simp) (by simp)
    have e7 : vs 7 = .slice (some ⟨fb, 0, none⟩) n fc := hv 7 (by simp) (by simp)
    have e8 : vs 8 = .int .i64 (n : Int) := hv 8 (by simp) (by simp)
    have e9 : vs 9 = .int .i64 1 := hv 9 (by simp) (by simp)
    have e10 : vs 10 = .slice (some ⟨fb, 1, none⟩) (n - 1) (fc - 1) := hv 10 (by simp) (by simp)
    clear hv
    simp only [e0, e1, e2, e3, e4, e5, e6, e7, e8, e9, e10]
    clear e0 e1 e2 e3 e4 e5 e6 e7 e8 e9 e10
    go_wp2
    go_ret
    exact ⟨rfl, hB⟩
set_option maxRecDepth 100000 in
theorem leads0 (w : World) (b0 i fb n fc : Nat) (kd : Int) (h3 : w.cell? ⟨b0, i * 5 + 3, none⟩ = some (.int .i64 kd)) (h4 : w.cell? ⟨b0, i * 5 + 4, none⟩ = some (.slice (some ⟨fb, 0, none⟩) n fc)) (hk1 : ¬ kd = 1) (hk2 : ¬ kd = 2) (hk3 : ¬ kd = 3) : Calls Try.prog 61 #[.pointer (some ⟨b0, i * 5, none⟩), .bool true] w fun e w' => e = .returned (.slice (some ⟨fb, 0, none⟩) n fc) ∧ Below w.heap.size w w' := by
  go_enter Try.func61, Try.ntmps61
  go_wp2
  · exfalso
    simp_all
  · go_ret
    exact ⟨rfl, Below.refl _ _⟩
theorem leads_calls (w : World) (b0 i : Nat) (o : GobL) (fb fc : Nat) (h : GobAt w b0 i o fb fc) (hb : b0 < w.heap.size) : Calls Try.prog 61 #[.pointer (some ⟨b0, i * 5, none⟩), .bool true] w fun e w' => ∃ off c, e = .returned (.slice (some ⟨fb, off, none⟩) (outG o).length c) ∧ Below w.heap.size w w' ∧ ∀ j (hj : j < (outG o).length), w.cell? ⟨fb, off + j, none⟩ = some (.int .i64 (outG o)[j]) := by
  have h3 := h.c3
  have h4 := h.c4
  have hcap := h.cap
  by_cases hk : 1 ≤ o.kind ∧ o.kind ≤ 3
  · have ho : outG o = o.flds.drop 1 := if_pos hk
    have hl : (outG o).length = o.flds.length - 1 := by rw [ho]; simp
    have hfl : ∀ j (hj : j < (outG o).length), w.cell? ⟨fb, 1 + j, none⟩ = some (.int .i64 (outG o)[j]) := fun j hj => by
      have := h.fl (1 + j) (by omega)
      rw [this]
      simp [ho, Nat.add_comm 1 j]
    have key : ∀ kd : Int, (kd = 1 ∨ kd = 2 ∨ kd = 3) → w.cell? ⟨b0, i * 5 + 3, none⟩ = some (.int .i64 kd) → Calls Try.prog 61 #[.pointer (some ⟨b0, i * 5, none⟩), .bool true] w fun e w' => ∃ off c, e = .returned (.slice (some ⟨fb, off, none⟩) (outG o).length c) ∧ Below w.heap.size w w' ∧ ∀ j (hj : j < (outG o).length), w.cell? ⟨fb, off + j, none⟩ = some (.int .i64 (outG o)[j]) := fun kd hkd h3 => by
      obtain ⟨n, hnE⟩ : ∃ n, n = o.flds.length := ⟨_, rfl⟩
      rw [← hnE] at h4 hcap hl
      clear hnE
      by_cases hn : n = 0
      · subst hn
        by_cases hf : fc = 0
        · subst hf
          have fin : Calls Try.prog 61 #[.pointer (some ⟨b0, i * 5, none⟩), .bool true] w fun e w' => e = .returned (.slice (some ⟨fb, 0, none⟩) 0 0) ∧ Below w.heap.size w w' := by
            rcases hkd with rfl | rfl | rfl
            · exact leads1z w b0 i fb 0 0 h3 h4 hb
            · exact leads2z w b0 i fb 0 0 h3 h4 hb
            · exact leads3z w b0 i fb 0 0 h3 h4 hb
          exact fin.mono fun e w' ⟨h1, h2⟩ => ⟨0, 0, by rw [hl]; exact h1, h2, fun j hj => absurd hj (by omega)⟩
        · have fin : Calls Try.prog 61 #[.pointer (some ⟨b0, i * 5, none⟩), .bool true] w fun e w' => e = .returned (.slice (some ⟨fb, 0, none⟩) 0 fc) ∧ Below w.heap.size w w' := by
            rcases hkd with rfl | rfl | rfl
            · exact leads1y w b0 i fb 0 fc h3 h4 hb (by omega)
            · exact leads2y w b0 i fb 0 fc h3 h4 hb (by omega)
            · exact leads3y w b0 i fb 0 fc h3 h4 hb (by omega)
          exact fin.mono fun e w' ⟨h1, h2⟩ => ⟨0, fc, by rw [hl]; exact h1, h2, fun j hj => absurd hj (by omega)⟩
      · by_cases hf : fc = 1
        · subst hf
          obtain rfl : n = 1 := by omega
          have fin : Calls Try.prog 61 #[.pointer (some ⟨b0, i * 5, none⟩), .bool true] w fun e w' => e = .returned (.slice (some ⟨fb, 0, none⟩) 0 0) ∧ Below w.heap.size w w' := by
            rcases hkd with rfl | rfl | rfl
            · exact leads1x w b0 i fb 0 0 h3 h4 hb
            · exact leads2x w b0 i fb 0 0 h3 h4 hb
            · exact leads3x w b0 i fb 0 0 h3 h4 hb
          exact fin.mono fun e w' ⟨h1, h2⟩ => ⟨0, 0, by rw [hl]; exact h1, h2, fun j hj => absurd hj (by omega)⟩
        · have fin : Calls Try.prog 61 #[.pointer (some ⟨b0, i * 5, none⟩), .bool true] w fun e w' => e = .returned (.slice (some ⟨fb, 1, none⟩) (n - 1) (fc - 1)) ∧ Below w.heap.size w w' := by
            rcases hkd with rfl | rfl | rfl
            · exact leads1w w b0 i fb n fc h3 h4 hb (by omega) (by omega) hcap
            · exact leads2w w b0 i fb n fc h3 h4 hb (by omega) (by omega) hcap
            · exact leads3w w b0 i fb n fc h3 h4 hb (by omega) (by omega) hcap
          exact fin.mono fun e w' ⟨h1, h2⟩ => ⟨1, fc - 1, by rw [hl]; exact h1, h2, fun j hj => hfl j hj⟩
    exact key o.kind (by omega) h3
  · have ho : outG o = o.flds := if_neg hk
    rw [ho]
    exact (leads0 w b0 i fb o.flds.length fc o.kind h3 h4 (by omega) (by omega) (by omega)).mono fun e w' ⟨h1, h2⟩ => ⟨0, fc, h1, h2, fun j hj => by rw [Nat.zero_add]; exact h.fl j hj⟩
end Go.Proofs.Ytchcdlelaklnnaa
