/- The specification's Order of a test that is not in order. -/
import Derived.Test.YtknbchheoloaoaaGreatSbB
import Derived.Test.YtknbchheoloaoaaGreatLtJ
namespace Go.Proofs.YtknbchheoloaoaaGreat
set_option linter.unusedVariables false
open Go.ChangeShapes Go.WideShapes Go.ChangeAt Go.RowKit
set_option maxRecDepth 1000000 in
set_option maxHeartbeats 8000000 in
theorem specOrder_no (x : LitL) (ta : Option Addr) (tc : Nat) (u : Value) (w : World) (lo hi : Nat) (hh : hi ≤ w.heap.size) (hx : ListAt ThrR 1 true lo hi w (.slice ta x.thr.length tc) x.thr) (hs : x.small) (hl : litB x = false) :
  Calls Tryz.prog 5 #[.agg #[.int .i64 x.vars, .int .i64 x.vol, .int .i64 x.locks, .slice ta x.thr.length tc], u] w fun e w' => e = .returned (.agg #[.slice none 0 0, .slice none 0 0]) ∧ Below w.heap.size w w' := by
 have hlit : Hid (∀ W, Below w.heap.size w W → Calls Tryz.prog 17 #[.agg #[.int .i64 x.vars, .int .i64 x.vol, .int .i64 x.locks, .slice ta x.thr.length tc]] W fun e w' => e = .returned (.bool false) ∧ Below W.heap.size W w') := fun W hW => by
  have h := litS_calls x W [.int .i64 x.vars, .int .i64 x.vol, .int .i64 x.locks, .slice ta x.thr.length tc] lo hi (by have := hW.size; omega) ⟨_, rfl, hx.kept ThrR.stable (Nat.le_refl _) (Nat.le_refl _) ((Same.below hW).mono (Nat.zero_le _) hh)⟩ hs
  rw [hl] at h; exact h
 clear hx hs hl
 obtain ⟨W0, hW0⟩ : ∃ W0 : World, W0 = ((w.alloc (.cells #[.int .i64 x.vars, .int .i64 x.vol, .int .i64 x.locks, .slice ta x.thr.length tc] 34)).alloc (.cells #[.slice none 0 0, .slice none 0 0] 30)).alloc (.cells #[.slice none 0 0, .slice none 0 0] 30) := ⟨_, rfl⟩
 have hO0 : Hid (OrW w W0 x ta tc (.slice none 0 0) (.slice none 0 0) [] []) := by
  show OrW _ _ _ _ _ _ _ _ _
  rw [hW0]
  refine ⟨below_on (below_on (below_1 _ _) (below_1 _ _)) (below_1 _ _), ?_, ?_, ?_, ⟨rfl, .inl ⟨rfl, rfl⟩⟩, ⟨rfl, .inl ⟨rfl, rfl⟩⟩, fun _ => rfl⟩
  ·rw [Below.heap_alloc _ _ _ (by simp; omega), Below.heap_alloc _ _ _ (by simp)]; exact heap_alloc_new _ _
  ·rw [Below.heap_alloc _ _ _ (by simp)]
   have := heap_alloc_new (w.alloc (.cells #[.int .i64 x.vars, .int .i64 x.vol, .int .i64 x.locks, .slice ta x.thr.length tc] 34)) (.cells #[.slice none 0 0, .slice none 0 0] 30)
   simpa using this
  ·have := heap_alloc_new ((w.alloc (.cells #[.int .i64 x.vars, .int .i64 x.vol, .int .i64 x.locks, .slice ta x.thr.length tc] 34)).alloc (.cells #[.slice none 0 0, .slice none 0 0] 30)) (.cells #[.slice none 0 0, .slice none 0 0] 30)
   simpa using this
 go_enter Tryz.func5, Tryz.ntmps5
 go_upto_region 2 with (fail)
 rw [← hW0]
 clear hW0
 obtain ⟨r0, r1, r2, r3⟩ := hO0.out.lit
 go_wp2_with (first
  | (go_at_call 17; refine (show Calls _ _ _ _ _ from hlit.out _ hO0.out.hb).mono ?_; rintro e w1 ⟨rfl, hb1⟩; have hO1 : Hid (OrW w w1 x ta tc (.slice none 0 0) (.slice none 0 0) [] []) := hO0.out.on hb1; have o0 : w1.cell? ⟨w.heap.size + 1 + 1, 0, none⟩ = some (.slice none 0 0) := hO1.out.o0; have o1 : w1.cell? ⟨w.heap.size + 1 + 1, 1, none⟩ = some (.slice none 0 0) := hO1.out.o1; have hth1 := hO1.out.final.1; have hthH : Hid _ := hth1; clear hth1)
  | (refine wpList_store_mid rfl 30 _ _ rfl (w.heap.size + 1) 0 #[.slice none 0 0, .slice none 0 0] rfl rfl hthH.out (by kernel_rfl) (all_oneCell_toArray (cs := [.slice none 0 0, .slice none 0 0]) (by simp [Value.oneCell'])) ?_))
 refine bodyPost_ret (v := .agg #[.slice none 0 0, .slice none 0 0]) (results_cell_mid rfl _ _ (w.heap.size + 1) [.slice none 0 0, .slice none 0 0] _ rfl (World.rangeAt_setCells_same w1 (w.heap.size + 1) 0 [.slice none 0 0, .slice none 0 0] hthH.out) Tryz.underlying30 rfl (by kernel_rfl)) rfl ?_
 exact ⟨rfl, hO1.out.final.2.2.2⟩
end Go.Proofs.YtknbchheoloaoaaGreat
