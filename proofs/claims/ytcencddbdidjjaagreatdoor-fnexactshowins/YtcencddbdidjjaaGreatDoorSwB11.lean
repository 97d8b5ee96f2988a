/- spec.l3Words. -/
import Derived.Test.YtcencddbdidjjaaGreatDoorSpW
namespace Go.Proofs.YtcencddbdidjjaaGreatDoor
set_option linter.unusedVariables false
open Go.ChangeShapes Go.WideShapes Go.ChangeAt Go.RowKit

set_option maxRecDepth 1000000 in
set_option maxHeartbeats 8000000 in
theorem sw23f (a b : Int) (T C N Y : ByteArray) (ta : Option Addr) (n tc : Nat) (w : World) (h64 : B64 b) :
    Calls Tryz.prog 12 #[insV 23 3 a b T C N Y (.slice ta n tc)] w fun e w' => ∃ v, e = .returned v ∧ WordsAt w.heap.size w' v (wordAt opsT 23 :: [wordAt letT 3, Lib.itoa b]) ∧ Below w.heap.size w w' := by
  have hnm : Hid (∀ W, Calls Tryz.prog 29 #[.int .i64 23] W fun e w' => e = .returned (.string (mkS (wordAt opsT 23))) ∧ Below W.heap.size W w') := fun W => opName_calls 23 W (by omega) (by omega)
  obtain ⟨nm, hnmE⟩ : ∃ nm, wordAt opsT 23 = nm := ⟨_, rfl⟩
  rw [hnmE] at hnm ⊢
  clear hnmE
  go_enter Tryz.func12, Tryz.ntmps12
  go_wp2_with (go_at_call 29; fail)
  refine (hnm.out _).mono ?_
  rintro e W2 ⟨rfl, hb2⟩
  obtain ⟨hB3, hi3, hne3, hw3, hle3⟩ := firstWord w W2 #[.int .i64 23, .int .i64 3, .int .i64 a, .int .i64 b, .string T, .string C, .string N, .string Y, .slice ta n tc] nm hb2
  have hB3H : Hid (Below w.heap.size w (W2.alloc (.cells #[.string (mkS nm)] 9))) := hB3
  have hwk : Hid (Wrk w.heap.size (W2.alloc (.cells #[.string (mkS nm)] 9)) (.slice (some ⟨W2.heap.size, 0, none⟩) 1 1) [nm] (.slice (some ⟨W2.heap.size, 0, none⟩) 1 1) (W2.alloc (.cells #[.string (mkS nm)] 9))) := Wrk.start hw3 hle3
  have hcl : Hid (∀ (W : World) (ws : List (List UInt8)) (v : Value), Wrk w.heap.size (W2.alloc (.cells #[.string (mkS nm)] 9)) (.slice (some ⟨W2.heap.size, 0, none⟩) 1 1) ws v W → ∀ ix, W.cell? ⟨w.heap.size, ix, none⟩ = #[.int .i64 23, .int .i64 3, .int .i64 a, .int .i64 b, .string T, .string C, .string N, .string Y, .slice ta n tc][ix]?) := fun W ws v h ix => h.ins hi3 (by simp only [Value.ownBlock]; intro e; injection e with e; omega) ix
  have hlt2 : w.heap.size < W2.heap.size := by have := hb2.size; simp at this; omega
  have cW : ∀ ix, W2.cell? ⟨w.heap.size, ix, none⟩ = #[.int .i64 23, .int .i64 3, .int .i64 a, .int .i64 b, .string T, .string C, .string N, .string Y, .slice ta n tc][ix]? := fun ix => by
    have h := hcl.out _ _ _ hwk.out ix
    rw [World.cell?_alloc_past _ _ _ (show w.heap.size < W2.heap.size from hlt2)] at h
    exact h
  have c0 : W2.cell? ⟨w.heap.size, 0, none⟩ = some (.int .i64 23) := cW 0
  have c1 : W2.cell? ⟨w.heap.size, 1, none⟩ = some (.int .i64 3) := cW 1
  have c2 : W2.cell? ⟨w.heap.size, 2, none⟩ = some (.int .i64 a) := cW 2
  have c3 : W2.cell? ⟨w.heap.size, 3, none⟩ = some (.int .i64 b) := cW 3
  have c4 : W2.cell? ⟨w.heap.size, 4, none⟩ = some (.string T) := cW 4
  have c5 : W2.cell? ⟨w.heap.size, 5, none⟩ = some (.string C) := cW 5
  have c6 : W2.cell? ⟨w.heap.size, 6, none⟩ = some (.string N) := cW 6
  have c7 : W2.cell? ⟨w.heap.size, 7, none⟩ = some (.string Y) := cW 7
  have c8 : W2.cell? ⟨w.heap.size, 8, none⟩ = some (.slice ta n tc) := cW 8
  clear hb2 hB3 hi3 hne3 hw3 hle3 hnm cW
  go_wp2_with (first
      | (go_at_call 30; refine (letter_calls 3 _ (by omega)).mono ?_; rintro e Wn ⟨rfl, hbn⟩; have hwk2 : Hid (Wrk w.heap.size (W2.alloc (.cells #[.string (mkS nm)] 9)) (.slice (some ⟨W2.heap.size, 0, none⟩) 1 1) [nm] (.slice (some ⟨W2.heap.size, 0, none⟩) 1 1) Wn) := hwk.out.call hbn; clear hbn)
      | (at_builtin; refine appN rfl _ _ _ rfl w.heap.size (W2.alloc (.cells #[.string (mkS nm)] 9)) (.slice (some ⟨W2.heap.size, 0, none⟩) 1 1) (.slice (some ⟨W2.heap.size, 0, none⟩) 1 1) [nm] [wordAt letT 3] 1 _ rfl rfl rfl (cellsN _ _ [wordAt letT 3] _ _ rfl (by simp)) (hwk2.out.alloc _) (by simp) ?_; intro v1 w1 hv1; have d0 : w1.cell? ⟨w.heap.size, 0, none⟩ = some (.int .i64 23) := hcl.out _ _ _ hv1.out 0; have d1 : w1.cell? ⟨w.heap.size, 1, none⟩ = some (.int .i64 3) := hcl.out _ _ _ hv1.out 1; have d2 : w1.cell? ⟨w.heap.size, 2, none⟩ = some (.int .i64 a) := hcl.out _ _ _ hv1.out 2; have d3 : w1.cell? ⟨w.heap.size, 3, none⟩ = some (.int .i64 b) := hcl.out _ _ _ hv1.out 3; fail_if_success done))
  refine (int_calls b _ h64).mono ?_
  rintro e Wm ⟨rfl, hbm⟩
  have hwk3 : Hid (Wrk w.heap.size (W2.alloc (.cells #[.string (mkS nm)] 9)) (.slice (some ⟨W2.heap.size, 0, none⟩) 1 1) ([nm] ++ [wordAt letT 3]) v1 Wm) := hv1.out.call hbm
  have e0 : Wm.cell? ⟨w.heap.size, 0, none⟩ = some (.int .i64 23) := hcl.out _ _ _ hwk3.out 0
  have e1 : Wm.cell? ⟨w.heap.size, 1, none⟩ = some (.int .i64 3) := hcl.out _ _ _ hwk3.out 1
  clear hbm d0 d1 d2 d3
  go_wp2_with (at_builtin; refine appN rfl _ _ _ rfl w.heap.size (W2.alloc (.cells #[.string (mkS nm)] 9)) (.slice (some ⟨W2.heap.size, 0, none⟩) 1 1) v1 ([nm] ++ [wordAt letT 3]) [Lib.itoa b] 1 _ rfl rfl rfl (cellsN _ _ [Lib.itoa b] _ _ rfl (by simp)) (hwk3.out.alloc _) (by simp) ?_; intro v' w' hvH; have g0 : w'.cell? ⟨w.heap.size, 0, none⟩ = some (.int .i64 23) := hcl.out _ _ _ hvH.out 0; have g1 : w'.cell? ⟨w.heap.size, 1, none⟩ = some (.int .i64 3) := hcl.out _ _ _ hvH.out 1)
  all_goals (go_ret; exact ⟨_, rfl, hvH.out.words, hB3H.out.trans hvH.out.below⟩)


set_option maxRecDepth 1000000 in
set_option maxHeartbeats 8000000 in
theorem sw23 (a b : Int) (j : Nat) (T C N Y : ByteArray) (ta : Option Addr) (n tc : Nat) (w : World) (hj : j < 8) (hk3 : ((j : Int) == 3) = false) :
    Calls Tryz.prog 12 #[insV 23 (j : Int) a b T C N Y (.slice ta n tc)] w fun e w' => ∃ v, e = .returned v ∧ WordsAt w.heap.size w' v (wordAt opsT 23 :: [wordAt letT j]) ∧ Below w.heap.size w w' := by
  have hnm : Hid (∀ W, Calls Tryz.prog 29 #[.int .i64 23] W fun e w' => e = .returned (.string (mkS (wordAt opsT 23))) ∧ Below W.heap.size W w') := fun W => opName_calls 23 W (by omega) (by omega)
  obtain ⟨nm, hnmE⟩ : ∃ nm, wordAt opsT 23 = nm := ⟨_, rfl⟩
  rw [hnmE] at hnm ⊢
  clear hnmE
  go_enter Tryz.func12, Tryz.ntmps12
  go_wp2_with (go_at_call 29; fail)
  refine (hnm.out _).mono ?_
  rintro e W2 ⟨rfl, hb2⟩
  obtain ⟨hB3, hi3, hne3, hw3, hle3⟩ := firstWord w W2 #[.int .i64 23, .int .i64 (j : Int), .int .i64 a, .int .i64 b, .string T, .string C, .string N, .string Y, .slice ta n tc] nm hb2
  have hB3H : Hid (Below w.heap.size w (W2.alloc (.cells #[.string (mkS nm)] 9))) := hB3
  have hwk : Hid (Wrk w.heap.size (W2.alloc (.cells #[.string (mkS nm)] 9)) (.slice (some ⟨W2.heap.size, 0, none⟩) 1 1) [nm] (.slice (some ⟨W2.heap.size, 0, none⟩) 1 1) (W2.alloc (.cells #[.string (mkS nm)] 9))) := Wrk.start hw3 hle3
  have hcl : Hid (∀ (W : World) (ws : List (List UInt8)) (v : Value), Wrk w.heap.size (W2.alloc (.cells #[.string (mkS nm)] 9)) (.slice (some ⟨W2.heap.size, 0, none⟩) 1 1) ws v W → ∀ ix, W.cell? ⟨w.heap.size, ix, none⟩ = #[.int .i64 23, .int .i64 (j : Int), .int .i64 a, .int .i64 b, .string T, .string C, .string N, .string Y, .slice ta n tc][ix]?) := fun W ws v h ix => h.ins hi3 (by simp only [Value.ownBlock]; intro e; injection e with e; omega) ix
  have hlt2 : w.heap.size < W2.heap.size := by have := hb2.size; simp at this; omega
  have cW : ∀ ix, W2.cell? ⟨w.heap.size, ix, none⟩ = #[.int .i64 23, .int .i64 (j : Int), .int .i64 a, .int .i64 b, .string T, .string C, .string N, .string Y, .slice ta n tc][ix]? := fun ix => by
    have h := hcl.out _ _ _ hwk.out ix
    rw [World.cell?_alloc_past _ _ _ (show w.heap.size < W2.heap.size from hlt2)] at h
    exact h
  have c0 : W2.cell? ⟨w.heap.size, 0, none⟩ = some (.int .i64 23) := cW 0
  have c1 : W2.cell? ⟨w.heap.size, 1, none⟩ = some (.int .i64 (j : Int)) := cW 1
  have c2 : W2.cell? ⟨w.heap.size, 2, none⟩ = some (.int .i64 a) := cW 2
  have c3 : W2.cell? ⟨w.heap.size, 3, none⟩ = some (.int .i64 b) := cW 3
  have c4 : W2.cell? ⟨w.heap.size, 4, none⟩ = some (.string T) := cW 4
  have c5 : W2.cell? ⟨w.heap.size, 5, none⟩ = some (.string C) := cW 5
  have c6 : W2.cell? ⟨w.heap.size, 6, none⟩ = some (.string N) := cW 6
  have c7 : W2.cell? ⟨w.heap.size, 7, none⟩ = some (.string Y) := cW 7
  have c8 : W2.cell? ⟨w.heap.size, 8, none⟩ = some (.slice ta n tc) := cW 8
  clear hb2 hB3 hi3 hne3 hw3 hle3 hnm cW
  go_wp2_with (first
      | (go_at_call 30; refine (letter_calls j _ (by omega)).mono ?_; rintro e Wn ⟨rfl, hbn⟩; have hwk2 : Hid (Wrk w.heap.size (W2.alloc (.cells #[.string (mkS nm)] 9)) (.slice (some ⟨W2.heap.size, 0, none⟩) 1 1) [nm] (.slice (some ⟨W2.heap.size, 0, none⟩) 1 1) Wn) := hwk.out.call hbn; clear hbn)
      | (at_builtin; refine appN rfl _ _ _ rfl w.heap.size (W2.alloc (.cells #[.string (mkS nm)] 9)) (.slice (some ⟨W2.heap.size, 0, none⟩) 1 1) (.slice (some ⟨W2.heap.size, 0, none⟩) 1 1) [nm] [wordAt letT j] 1 _ rfl rfl rfl (cellsN _ _ [wordAt letT j] _ _ rfl (by simp)) (hwk2.out.alloc _) (by simp) ?_; intro v' w' hvH; have g0 : w'.cell? ⟨w.heap.size, 0, none⟩ = some (.int .i64 23) := hcl.out _ _ _ hvH.out 0; have g1 : w'.cell? ⟨w.heap.size, 1, none⟩ = some (.int .i64 (j : Int)) := hcl.out _ _ _ hvH.out 1))
  all_goals (go_ret; exact ⟨_, rfl, hvH.out.words, hB3H.out.trans hvH.out.below⟩)

end Go.Proofs.YtcencddbdidjjaaGreatDoor

/- spec.l3Words. -/
namespace Go.Proofs.YtcencddbdidjjaaGreatDoor
set_option linter.unusedVariables false
open Go.ChangeShapes Go.WideShapes Go.ChangeAt Go.RowKit

set_option maxRecDepth 1000000 in
set_option maxHeartbeats 8000000 in
theorem sw31z (k a : Int) (T C N Y : ByteArray) (ta : Option Addr) (n tc : Nat) (w : World) :
    Calls Tryz.prog 12 #[insV 31 k a 0 T C N Y (.slice ta n tc)] w fun e w' => ∃ v, e = .returned v ∧ WordsAt w.heap.size w' v (wordAt opsT 31 :: [C.data.toList, N.data.toList, Y.data.toList]) ∧ Below w.heap.size w w' := by
  have hnm : Hid (∀ W, Calls Tryz.prog 29 #[.int .i64 31] W fun e w' => e = .returned (.string (mkS (wordAt opsT 31))) ∧ Below W.heap.size W w') := fun W => opName_calls 31 W (by omega) (by omega)
  obtain ⟨nm, hnmE⟩ : ∃ nm, wordAt opsT 31 = nm := ⟨_, rfl⟩
  rw [hnmE] at hnm ⊢
  clear hnmE
  go_enter Tryz.func12, Tryz.ntmps12
  go_wp2_with (go_at_call 29; fail)
  refine (hnm.out _).mono ?_
  rintro e W2 ⟨rfl, hb2⟩
  obtain ⟨hB3, hi3, hne3, hw3, hle3⟩ := firstWord w W2 #[.int .i64 31, .int .i64 k, .int .i64 a, .int .i64 0, .string T, .string C, .string N, .string Y, .slice ta n tc] nm hb2
  have hB3H : Hid (Below w.heap.size w (W2.alloc (.cells #[.string (mkS nm)] 9))) := hB3
  have hwk : Hid (Wrk w.heap.size (W2.alloc (.cells #[.string (mkS nm)] 9)) (.slice (some ⟨W2.heap.size, 0, none⟩) 1 1) [nm] (.slice (some ⟨W2.heap.size, 0, none⟩) 1 1) (W2.alloc (.cells #[.string (mkS nm)] 9))) := Wrk.start hw3 hle3
  have hcl : Hid (∀ (W : World) (ws : List (List UInt8)) (v : Value), Wrk w.heap.size (W2.alloc (.cells #[.string (mkS nm)] 9)) (.slice (some ⟨W2.heap.size, 0, none⟩) 1 1) ws v W → ∀ ix, W.cell? ⟨w.heap.size, ix, none⟩ = #[.int .i64 31, .int .i64 k, .int .i64 a, .int .i64 0, .string T, .string C, .string N, .string Y, .slice ta n tc][ix]?) := fun W ws v h ix => h.ins hi3 (by simp only [Value.ownBlock]; intro e; injection e with e; omega) ix
  have hlt2 : w.heap.size < W2.heap.size := by have := hb2.size; simp at this; omega
  have cW : ∀ ix, W2.cell? ⟨w.heap.size, ix, none⟩ = #[.int .i64 31, .int .i64 k, .int .i64 a, .int .i64 0, .string T, .string C, .string N, .string Y, .slice ta n tc][ix]? := fun ix => by
    have h := hcl.out _ _ _ hwk.out ix
    rw [World.cell?_alloc_past _ _ _ (show w.heap.size < W2.heap.size from hlt2)] at h
    exact h
  have c0 : W2.cell? ⟨w.heap.size, 0, none⟩ = some (.int .i64 31) := cW 0
  have c1 : W2.cell? ⟨w.heap.size, 1, none⟩ = some (.int .i64 k) := cW 1
  have c2 : W2.cell? ⟨w.heap.size, 2, none⟩ = some (.int .i64 a) := cW 2
  have c3 : W2.cell? ⟨w.heap.size, 3, none⟩ = some (.int .i64 0) := cW 3
  have c4 : W2.cell? ⟨w.heap.size, 4, none⟩ = some (.string T) := cW 4
  have c5 : W2.cell? ⟨w.heap.size, 5, none⟩ = some (.string C) := cW 5
  have c6 : W2.cell? ⟨w.heap.size, 6, none⟩ = some (.string N) := cW 6
  have c7 : W2.cell? ⟨w.heap.size, 7, none⟩ = some (.string Y) := cW 7
  have c8 : W2.cell? ⟨w.heap.size, 8, none⟩ = some (.slice ta n tc) := cW 8
  clear hb2 hB3 hi3 hne3 hw3 hle3 hnm cW
  go_wp2_with (at_builtin; refine appN rfl _ _ _ rfl w.heap.size (W2.alloc (.cells #[.string (mkS nm)] 9)) (.slice (some ⟨W2.heap.size, 0, none⟩) 1 1) (.slice (some ⟨W2.heap.size, 0, none⟩) 1 1) [nm] [C.data.toList, N.data.toList, Y.data.toList] 3 _ rfl rfl rfl (cellsN _ _ [C.data.toList, N.data.toList, Y.data.toList] _ _ rfl (by simp)) (hwk.out.alloc _) (by simp) ?_; intro v' w' hvH)
  all_goals (go_ret; exact ⟨_, rfl, hvH.out.words, hB3H.out.trans hvH.out.below⟩)


set_option maxRecDepth 1000000 in
set_option maxHeartbeats 8000000 in
theorem sw32z (k a : Int) (T C N Y : ByteArray) (ta : Option Addr) (n tc : Nat) (w : World) :
    Calls Tryz.prog 12 #[insV 32 k a 0 T C N Y (.slice ta n tc)] w fun e w' => ∃ v, e = .returned v ∧ WordsAt w.heap.size w' v (wordAt opsT 32 :: [C.data.toList, N.data.toList, Y.data.toList]) ∧ Below w.heap.size w w' := by
  have hnm : Hid (∀ W, Calls Tryz.prog 29 #[.int .i64 32] W fun e w' => e = .returned (.string (mkS (wordAt opsT 32))) ∧ Below W.heap.size W w') := fun W => opName_calls 32 W (by omega) (by omega)
  obtain ⟨nm, hnmE⟩ : ∃ nm, wordAt opsT 32 = nm := ⟨_, rfl⟩
  rw [hnmE] at hnm ⊢
  clear hnmE
  go_enter Tryz.func12, Tryz.ntmps12
  go_wp2_with (go_at_call 29; fail)
  refine (hnm.out _).mono ?_
  rintro e W2 ⟨rfl, hb2⟩
  obtain ⟨hB3, hi3, hne3, hw3, hle3⟩ := firstWord w W2 #[.int .i64 32, .int .i64 k, .int .i64 a, .int .i64 0, .string T, .string C, .string N, .string Y, .slice ta n tc] nm hb2
  have hB3H : Hid (Below w.heap.size w (W2.alloc (.cells #[.string (mkS nm)] 9))) := hB3
  have hwk : Hid (Wrk w.heap.size (W2.alloc (.cells #[.string (mkS nm)] 9)) (.slice (some ⟨W2.heap.size, 0, none⟩) 1 1) [nm] (.slice (some ⟨W2.heap.size, 0, none⟩) 1 1) (W2.alloc (.cells #[.string (mkS nm)] 9))) := Wrk.start hw3 hle3
  have hcl : Hid (∀ (W : World) (ws : List (List UInt8)) (v : Value), Wrk w.heap.size (W2.alloc (.cells #[.string (mkS nm)] 9)) (.slice (some ⟨W2.heap.size, 0, none⟩) 1 1) ws v W → ∀ ix, W.cell? ⟨w.heap.size, ix, none⟩ = #[.int .i64 32, .int .i64 k, .int .i64 a, .int .i64 0, .string T, .string C, .string N, .string Y, .slice ta n tc][ix]?) := fun W ws v h ix => h.ins hi3 (by simp only [Value.ownBlock]; intro e; injection e with e; omega) ix
  have hlt2 : w.heap.size < W2.heap.size := by have := hb2.size; simp at this; omega
  have cW : ∀ ix, W2.cell? ⟨w.heap.size, ix, none⟩ = #[.int .i64 32, .int .i64 k, .int .i64 a, .int .i64 0, .string T, .string C, .string N, .string Y, .slice ta n tc][ix]? := fun ix => by
    have h := hcl.out _ _ _ hwk.out ix
    rw [World.cell?_alloc_past _ _ _ (show w.heap.size < W2.heap.size from hlt2)] at h
    exact h
  have c0 : W2.cell? ⟨w.heap.size, 0, none⟩ = some (.int .i64 32) := cW 0
  have c1 : W2.cell? ⟨w.heap.size, 1, none⟩ = some (.int .i64 k) := cW 1
  have c2 : W2.cell? ⟨w.heap.size, 2, none⟩ = some (.int .i64 a) := cW 2
  have c3 : W2.cell? ⟨w.heap.size, 3, none⟩ = some (.int .i64 0) := cW 3
  have c4 : W2.cell? ⟨w.heap.size, 4, none⟩ = some (.string T) := cW 4
  have c5 : W2.cell? ⟨w.heap.size, 5, none⟩ = some (.string C) := cW 5
  have c6 : W2.cell? ⟨w.heap.size, 6, none⟩ = some (.string N) := cW 6
  have c7 : W2.cell? ⟨w.heap.size, 7, none⟩ = some (.string Y) := cW 7
  have c8 : W2.cell? ⟨w.heap.size, 8, none⟩ = some (.slice ta n tc) := cW 8
  clear hb2 hB3 hi3 hne3 hw3 hle3 hnm cW
  go_wp2_with (at_builtin; refine appN rfl _ _ _ rfl w.heap.size (W2.alloc (.cells #[.string (mkS nm)] 9)) (.slice (some ⟨W2.heap.size, 0, none⟩) 1 1) (.slice (some ⟨W2.heap.size, 0, none⟩) 1 1) [nm] [C.data.toList, N.data.toList, Y.data.toList] 3 _ rfl rfl rfl (cellsN _ _ [C.data.toList, N.data.toList, Y.data.toList] _ _ rfl (by simp)) (hwk.out.alloc _) (by simp) ?_; intro v' w' hvH)
  all_goals (go_ret; exact ⟨_, rfl, hvH.out.words, hB3H.out.trans hvH.out.below⟩)

end Go.Proofs.YtcencddbdidjjaaGreatDoor
