/- What is made at first, on both sides. -/
import Derived.Test.YtchcdlelaklnnaaKmE
import Derived.Test.YtchcdlelaklnnaaKsN
namespace Go.Proofs.Ytchcdlelaklnnaa
set_option linter.unusedVariables false
open Go.ChangeShapes Go.WideShapes Go.ChangeAt Go.RowKit

set_option maxRecDepth 100000 in
set_option maxHeartbeats 1000000 in
theorem newM_calls (w : World) (mode : Int) :
    Calls Try.prog 14 #[.int .i64 mode] w fun e w' => ∃ M ov, e = .returned (.pointer (some ⟨M, 0, none⟩)) ∧ ImW w' (fun k => k < w.heap.size) M (newM mode) [] [] ov (.slice none 0 0) ∧ Below w.heap.size w w' := by
  go_enter Try.func14, Try.ntmps14
  go_wp2
  go_ret
  refine ⟨w.heap.size + 1, .slice (some ⟨w.heap.size, 0, none⟩) 1 1, rfl, ⟨⟨rfl, rfl, fun i o h => by simp [newM] at h, List.nodup_nil, ⟨fun p h => by simp at h, fun p h => by simp at h⟩⟩, ?_, ?_, .inl ⟨rfl, rfl⟩, fun k q r => by simp [Value.ownBlock] at r, by simp [newM], ⟨by omega, fun k q => ?_⟩, ⟨fun k q => ?_, fun k q => by simp [Value.ownBlock] at q⟩⟩, ?_⟩
  · have := heap_alloc_new (w.alloc (.cells #[.pointer none] 62)) (.cells (mkC (newM mode) (.slice (some ⟨w.heap.size, 0, none⟩) 1 1) (.slice none 0 0)) 69)
    rw [World.size_alloc] at this
    exact this
  · refine own_kept (w := w.alloc (.cells #[.pointer none] 62)) (own_mono (World.ownsRow_lit w #[.pointer none] 1 (Nat.le_refl _) (by unfold maxLen; omega) rfl) (Nat.zero_le _)) fun k q => ?_
    simp only [Value.ownBlock, Option.some.injEq] at q
    exact Below.heap_alloc _ _ _ (by rw [World.size_alloc]; omega)
  · simp
    omega
  · simp only [Value.ownBlock, Option.some.injEq] at q
    omega
  · exact below_on2 (below_1 _ _) (below_1 _ _)
set_option maxRecDepth 100000 in
set_option maxHeartbeats 1000000 in
theorem newS_calls (w : World) (mode : Int) :
    Calls Try.prog 22 #[.int .i64 mode] w fun e w' => ∃ H R, e = .returned (.pointer (some ⟨H, 0, none⟩)) ∧ SpW w' (fun k => k < w.heap.size) H (newM mode) [] [] (.slice none 0 0) R (.slice none 0 0) ∧ Below w.heap.size w w' := by
  obtain ⟨i9, hi9, hz9, hs9, hb9⟩ := int_info
  go_enter Try.func22, Try.ntmps22
  go_wp2_with (refine wpList_make_full _ rfl (.const (.int .i64 8)) (.const (.int .i64 8)) 32 rfl w.heap.size 2 i9 (.int .i64 0) 1 Try.underlying32 hi9 hz9 hs9 .i64 .i64 8 8 8 rfl rfl rfl rfl (by rw [hb9]; omega) (by unfold maxLen; omega) (Nat.le_refl _) ?_; intro w1 hown1 hgrow1; have hrow : Hid _ := made_row hown1; have hB1 : Hid _ := below_of_grown hgrow1 (Nat.le_refl w.heap.size); clear hown1 hgrow1)
  go_ret
  have hR := hrow.out
  have hl := lt_of hR
  have hb2 : Below w1.heap.size w1 (w1.alloc (.cells #[.int .i64 mode, .slice none 0 0, .slice (some ⟨w.heap.size, 0, none⟩) 8 8, .bool false, .slice none 0 0, .int .i64 0] 61)) := below_1 _ _
  refine ⟨w1.heap.size, w.heap.size, rfl, ⟨⟨rfl, rfl, fun i o h => by simp [newM] at h, List.nodup_nil, ⟨fun p h => by simp at h, fun p h => by simp at h⟩⟩, ?_, ⟨rfl, .inl ⟨rfl, rfl⟩⟩, ?_, ⟨rfl, .inl ⟨rfl, rfl⟩⟩, by simp, by simp [Value.ownBlock], fun f hf => by simp at hf, ⟨by omega, by omega, fun k q => ?_⟩, ⟨fun k q => by simp [Value.ownBlock] at q, fun k q => by simp [Value.ownBlock] at q⟩⟩, below_on2 hB1.out hb2⟩
  · have := heap_alloc_new w1 (.cells #[.int .i64 mode, .slice none 0 0, .slice (some ⟨w.heap.size, 0, none⟩) 8 8, .bool false, .slice none 0 0, .int .i64 0] 61)
    exact this
  · exact (Below.heap_alloc _ _ _ hl).trans hR
  · have h1 := hB1.out.size
    have h2 := hb2.size
    omega
end Go.Proofs.Ytchcdlelaklnnaa
