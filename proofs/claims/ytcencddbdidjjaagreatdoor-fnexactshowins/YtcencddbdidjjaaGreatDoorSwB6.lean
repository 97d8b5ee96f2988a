/- spec.l3Words. -/
import Derived.Test.YtcencddbdidjjaaGreatDoorSpW
namespace Go.Proofs.YtcencddbdidjjaaGreatDoor
set_option linter.unusedVariables false
open Go.ChangeShapes Go.WideShapes Go.ChangeAt Go.RowKit

set_option maxRecDepth 1000000 in
set_option maxHeartbeats 8000000 in
theorem sw11 (a b : Int) (j : Nat) (T C N Y : ByteArray) (ta : Option Addr) (n tc : Nat) (w : World) (hj : j < 8) :
    Calls Tryz.prog 12 #[insV 11 (j : Int) a b T C N Y (.slice ta n tc)] w fun e w' => ∃ v, e = .returned v ∧ WordsAt w.heap.size w' v (wordAt opsT 11 :: [wordAt letT j]) ∧ Below w.heap.size w w' := by
  have hnm : Hid (∀ W, Calls Tryz.prog 29 #[.int .i64 11] W fun e w' => e = .returned (.string (mkS (wordAt opsT 11))) ∧ Below W.heap.size W w') := fun W => opName_calls 11 W (by omega) (by omega)
  obtain ⟨nm, hnmE⟩ : ∃ nm, wordAt opsT 11 = nm := ⟨_, rfl⟩
  rw [hnmE] at hnm ⊢
  clear hnmE
  go_enter Tryz.func12, Tryz.ntmps12
  go_wp2_with (go_at_call 29; fail)
  refine (hnm.out _).mono ?_
  rintro e W2 ⟨rfl, hb2⟩
  obtain ⟨hB3, hi3, hne3, hw3, hle3⟩ := firstWord w W2 #[.int .i64 11, .int .i64 (j : Int), .int .i64 a, .int .i64 b, .string T, .string C, .string N, .string Y, .slice ta n tc] nm hb2
  have hB3H : Hid (Below w.heap.size w (W2.alloc (.cells #[.string (mkS nm)] 9))) := hB3
  have hwk : Hid (Wrk w.heap.size (W2.alloc (.cells #[.string (mkS nm)] 9)) (.slice (some ⟨W2.heap.size, 0, none⟩) 1 1) [nm] (.slice (some ⟨W2.heap.size, 0, none⟩) 1 1) (W2.alloc (.cells #[.string (mkS nm)] 9))) := Wrk.start hw3 hle3
  have hcl : Hid (∀ (W : World) (ws : List (List UInt8)) (v : Value), Wrk w.heap.size (W2.alloc (.cells #[.string (mkS nm)] 9)) (.slice (some ⟨W2.heap.size, 0, none⟩) 1 1) ws v W → ∀ ix, W.cell? ⟨w.heap.size, ix, none⟩ = #[.int .i64 11, .int .i64 (j : Int), .int .i64 a, .int .i64 b, .string T, .string C, .string N, .string Y, .slice ta n tc][ix]?) := fun W ws v h ix => h.ins hi3 (by simp only [Value.ownBlock]; intro e; injection e with e; omega) ix
  have hlt2 : w.heap.size < W2.heap.size := by have := hb2.size; simp at this; omega
  have cW : ∀ ix, W2.cell? ⟨w.heap.size, ix, none⟩ = #[.int .i64 11, .int .i64 (j : Int), .int .i64 a, .int .i64 b, .string T, .string C, .string N, .string Y, .slice ta n tc][ix]? := fun ix => by
    have h := hcl.out _ _ _ hwk.out ix
    rw [World.cell?_alloc_past _ _ _ (show w.heap.size < W2.heap.size from hlt2)] at h
    exact h
  have c0 : W2.cell? ⟨w.heap.size, 0, none⟩ = some (.int .i64 11) := cW 0
  have c1 : W2.cell? ⟨w.heap.size, 1, none⟩ = some (.int .i64 (j : Int)) := cW 1
  have c2 : W2.cell? ⟨w.heap.size, 2, none⟩ = some (.int .i64 a) := cW 2
  have c3 : W2.cell? ⟨w.heap.size, 3, none⟩ = some (.int .i64 b) := cW 3
  have c4 : W2.cell? ⟨w.heap.size, 4, none⟩ = some (.string T) := cW 4
  have c5 : W2.cell? ⟨w.heap.size, 5, none⟩ = some (.string C) := cW 5
  have c6 : W2.cell? ⟨w.heap.size, 6, none⟩ = some (.string N) := cW 6
  have c7 : W2.cell? ⟨w.heap.size, 7, none⟩ = some (.string Y) := cW 7
  have c8 : W2.cell? ⟨w.heap.size, 8, none⟩ = some (.slice ta n tc) := cW 8
  clear hb2 hB3 hi3 hne3 hw3 hle3 hnm cW
  go_wp2_with (first
      | (go_at_call 30; refine (letter_calls j _ (by omega)).mono ?_; rintro e Wn ⟨rfl, hbn⟩; have hwk2 : Hid (Wrk w.heap.size (W2.alloc (.cells #[.string (mkS nm)] 9)) (.slice (some ⟨W2.heap.size, 0, none⟩) 1 1) [nm] (.slice (some ⟨W2.heap.size, 0, none⟩) 1 1) Wn) := hwk.out.call hbn; clear hbn)
      | (at_builtin; refine appN rfl _ _ _ rfl w.heap.size (W2.alloc (.cells #[.string (mkS nm)] 9)) (.slice (some ⟨W2.heap.size, 0, none⟩) 1 1) (.slice (some ⟨W2.heap.size, 0, none⟩) 1 1) [nm] [wordAt letT j] 1 _ rfl rfl rfl (cellsN _ _ [wordAt letT j] _ _ rfl (by simp)) (hwk2.out.alloc _) (by simp) ?_; intro v' w' hvH))
  all_goals (go_ret; exact ⟨_, rfl, hvH.out.words, hB3H.out.trans hvH.out.below⟩)


set_option maxRecDepth 1000000 in
set_option maxHeartbeats 8000000 in
theorem sw12 (a b : Int) (j : Nat) (T C N Y : ByteArray) (ta : Option Addr) (n tc : Nat) (w : World) (hj : j < 8) :
    Calls Tryz.prog 12 #[insV 12 (j : Int) a b T C N Y (.slice ta n tc)] w fun e w' => ∃ v, e = .returned v ∧ WordsAt w.heap.size w' v (wordAt opsT 12 :: [wordAt letT j]) ∧ Below w.heap.size w w' := by
  have hnm : Hid (∀ W, Calls Tryz.prog 29 #[.int .i64 12] W fun e w' => e = .returned (.string (mkS (wordAt opsT 12))) ∧ Below W.heap.size W w') := fun W => opName_calls 12 W (by omega) (by omega)
  obtain ⟨nm, hnmE⟩ : ∃ nm, wordAt opsT 12 = nm := ⟨_, rfl⟩
  rw [hnmE] at hnm ⊢
  clear hnmE
  go_enter Tryz.func12, Tryz.ntmps12
  go_wp2_with (go_at_call 29; fail)
  refine (hnm.out _).mono ?_
  rintro e W2 ⟨rfl, hb2⟩
  obtain ⟨hB3, hi3, hne3, hw3, hle3⟩ := firstWord w W2 #[.int .i64 12, .int .i64 (j : Int), .int .i64 a, .int .i64 b, .string T, .string C, .string N, .string Y, .slice ta n tc] nm hb2
  have hB3H : Hid (Below w.heap.size w (W2.alloc (.cells #[.string (mkS nm)] 9))) := hB3
  have hwk : Hid (Wrk w.heap.size (W2.alloc (.cells #[.string (mkS nm)] 9)) (.slice (some ⟨W2.heap.size, 0, none⟩) 1 1) [nm] (.slice (some ⟨W2.heap.size, 0, none⟩) 1 1) (W2.alloc (.cells #[.string (mkS nm)] 9))) := Wrk.start hw3 hle3
  have hcl : Hid (∀ (W : World) (ws : List (List UInt8)) (v : Value), Wrk w.heap.size (W2.alloc (.cells #[.string (mkS nm)] 9)) (.slice (some ⟨W2.heap.size, 0, none⟩) 1 1) ws v W → ∀ ix, W.cell? ⟨w.heap.size, ix, none⟩ = #[.int .i64 12, .int .i64 (j : Int), .int .i64 a, .int .i64 b, .string T, .string C, .string N, .string Y, .slice ta n tc][ix]?) := fun W ws v h ix => h.ins hi3 (by simp only [Value.ownBlock]; intro e; injection e with e; omega) ix
  have hlt2 : w.heap.size < W2.heap.size := by have := hb2.size; simp at this; omega
  have cW : ∀ ix, W2.cell? ⟨w.heap.size, ix, none⟩ = #[.int .i64 12, .int .i64 (j : Int), .int .i64 a, .int .i64 b, .string T, .string C, .string N, .string Y, .slice ta n tc][ix]? := fun ix => by
    have h := hcl.out _ _ _ hwk.out ix
    rw [World.cell?_alloc_past _ _ _ (show w.heap.size < W2.heap.size from hlt2)] at h
    exact h
  have c0 : W2.cell? ⟨w.heap.size, 0, none⟩ = some (.int .i64 12) := cW 0
  have c1 : W2.cell? ⟨w.heap.size, 1, none⟩ = some (.int .i64 (j : Int)) := cW 1
  have c2 : W2.cell? ⟨w.heap.size, 2, none⟩ = some (.int .i64 a) := cW 2
  have c3 : W2.cell? ⟨w.heap.size, 3, none⟩ = some (.int .i64 b) := cW 3
  have c4 : W2.cell? ⟨w.heap.size, 4, none⟩ = some (.string T) := cW 4
  have c5 : W2.cell? ⟨w.heap.size, 5, none⟩ = some (.string C) := cW 5
  have c6 : W2.cell? ⟨w.heap.size, 6, none⟩ = some (.string N) := cW 6
  have c7 : W2.cell? ⟨w.heap.size, 7, none⟩ = some (.string Y) := cW 7
  have c8 : W2.cell? ⟨w.heap.size, 8, none⟩ = some (.slice ta n tc) := cW 8
  clear hb2 hB3 hi3 hne3 hw3 hle3 hnm cW
  go_wp2_with (first
      | (go_at_call 30; refine (letter_calls j _ (by omega)).mono ?_; rintro e Wn ⟨rfl, hbn⟩; have hwk2 : Hid (Wrk w.heap.size (W2.alloc (.cells #[.string (mkS nm)] 9)) (.slice (some ⟨W2.heap.size, 0, none⟩) 1 1) [nm] (.slice (some ⟨W2.heap.size, 0, none⟩) 1 1) Wn) := hwk.out.call hbn; clear hbn)
      | (at_builtin; refine appN rfl _ _ _ rfl w.heap.size (W2.alloc (.cells #[.string (mkS nm)] 9)) (.slice (some ⟨W2.heap.size, 0, none⟩) 1 1) (.slice (some ⟨W2.heap.size, 0, none⟩) 1 1) [nm] [wordAt letT j] 1 _ rfl rfl rfl (cellsN _ _ [wordAt letT j] _ _ rfl (by simp)) (hwk2.out.alloc _) (by simp) ?_; intro v' w' hvH))
  all_goals (go_ret; exact ⟨_, rfl, hvH.out.words, hB3H.out.trans hvH.out.below⟩)


set_option maxRecDepth 1000000 in
set_option maxHeartbeats 8000000 in
theorem sw13 (a b : Int) (j : Nat) (T C N Y : ByteArray) (ta : Option Addr) (n tc : Nat) (w : World) (hj : j < 8) :
    Calls Tryz.prog 12 #[insV 13 (j : Int) a b T C N Y (.slice ta n tc)] w fun e w' => ∃ v, e = .returned v ∧ WordsAt w.heap.size w' v (wordAt opsT 13 :: [wordAt letT j]) ∧ Below w.heap.size w w' := by
  have hnm : Hid (∀ W, Calls Tryz.prog 29 #[.int .i64 13] W fun e w' => e = .returned (.string (mkS (wordAt opsT 13))) ∧ Below W.heap.size W w') := fun W => opName_calls 13 W (by omega) (by omega)
  obtain ⟨nm, hnmE⟩ : ∃ nm, wordAt opsT 13 = nm := ⟨_, rfl⟩
  rw [hnmE] at hnm ⊢
  clear hnmE
  go_enter Tryz.func12, Tryz.ntmps12
  go_wp2_with (go_at_call 29; fail)
  refine (hnm.out _).mono ?_
  rintro e W2 ⟨rfl, hb2⟩
  obtain ⟨hB3, hi3, hne3, hw3, hle3⟩ := firstWord w W2 #[.int .i64 13, .int .i64 (j : Int), .int .i64 a, .int .i64 b, .string T, .string C, .string N, .string Y, .slice ta n tc] nm hb2
  have hB3H : Hid (Below w.heap.size w (W2.alloc (.cells #[.string (mkS nm)] 9))) := hB3
  have hwk : Hid (Wrk w.heap.size (W2.alloc (.cells #[.string (mkS nm)] 9)) (.slice (some ⟨W2.heap.size, 0, none⟩) 1 1) [nm] (.slice (some ⟨W2.heap.size, 0, none⟩) 1 1) (W2.alloc (.cells #[.string (mkS nm)] 9))) := Wrk.start hw3 hle3
  have hcl : Hid (∀ (W : World) (ws : List (List UInt8)) (v : Value), Wrk w.heap.size (W2.alloc (.cells #[.string (mkS nm)] 9)) (.slice (some ⟨W2.heap.size, 0, none⟩) 1 1) ws v W → ∀ ix, W.cell? ⟨w.heap.size, ix, none⟩ = #[.int .i64 13, .int .i64 (j : Int), .int .i64 a, .int .i64 b, .string T, .string C, .string N, .string Y, .slice ta n tc][ix]?) := fun W ws v h ix => h.ins hi3 (by simp only [Value.ownBlock]; intro e; injection e with e; omega) ix
  have hlt2 : w.heap.size < W2.heap.size := by have := hb2.size; simp at this; omega
  have cW : ∀ ix, W2.cell? ⟨w.heap.size, ix, none⟩ = #[.int .i64 13, .int .i64 (j : Int), .int .i64 a, .int .i64 b, .string T, .string C, .string N, .string Y, .slice ta n tc][ix]? := fun ix => by
    have h := hcl.out _ _ _ hwk.out ix
    rw [World.cell?_alloc_past _ _ _ (show w.heap.size < W2.heap.size from hlt2)] at h
    exact h
  have c0 : W2.cell? ⟨w.heap.size, 0, none⟩ = some (.int .i64 13) := cW 0
  have c1 : W2.cell? ⟨w.heap.size, 1, none⟩ = some (.int .i64 (j : Int)) := cW 1
  have c2 : W2.cell? ⟨w.heap.size, 2, none⟩ = some (.int .i64 a) := cW 2
  have c3 : W2.cell? ⟨w.heap.size, 3, none⟩ = some (.int .i64 b) := cW 3
  have c4 : W2.cell? ⟨w.heap.size, 4, none⟩ = some (.string T) := cW 4
  have c5 : W2.cell? ⟨w.heap.size, 5, none⟩ = some (.string C) := cW 5
  have c6 : W2.cell? ⟨w.heap.size, 6, none⟩ = some (.string N) := cW 6
  have c7 : W2.cell? ⟨w.heap.size, 7, none⟩ = some (.string Y) := cW 7
  have c8 : W2.cell? ⟨w.heap.size, 8, none⟩ = some (.slice ta n tc) := cW 8
  clear hb2 hB3 hi3 hne3 hw3 hle3 hnm cW
  go_wp2_with (first
      | (go_at_call 30; refine (letter_calls j _ (by omega)).mono ?_; rintro e Wn ⟨rfl, hbn⟩; have hwk2 : Hid (Wrk w.heap.size (W2.alloc (.cells #[.string (mkS nm)] 9)) (.slice (some ⟨W2.heap.size, 0, none⟩) 1 1) [nm] (.slice (some ⟨W2.heap.size, 0, none⟩) 1 1) Wn) := hwk.out.call hbn; clear hbn)
      | (at_builtin; refine appN rfl _ _ _ rfl w.heap.size (W2.alloc (.cells #[.string (mkS nm)] 9)) (.slice (some ⟨W2.heap.size, 0, none⟩) 1 1) (.slice (some ⟨W2.heap.size, 0, none⟩) 1 1) [nm] [wordAt letT j] 1 _ rfl rfl rfl (cellsN _ _ [wordAt letT j] _ _ rfl (by simp)) (hwk2.out.alloc _) (by simp) ?_; intro v' w' hvH))
  all_goals (go_ret; exact ⟨_, rfl, hvH.out.words, hB3H.out.trans hvH.out.below⟩)


set_option maxRecDepth 1000000 in
set_option maxHeartbeats 8000000 in
theorem sw14 (a b : Int) (j : Nat) (T C N Y : ByteArray) (ta : Option Addr) (n tc : Nat) (w : World) (hj : j < 8) :
    Calls Tryz.prog 12 #[insV 14 (j : Int) a b T C N Y (.slice ta n tc)] w fun e w' => ∃ v, e = .returned v ∧ WordsAt w.heap.size w' v (wordAt opsT 14 :: [wordAt letT j]) ∧ Below w.heap.size w w' := by
  have hnm : Hid (∀ W, Calls Tryz.prog 29 #[.int .i64 14] W fun e w' => e = .returned (.string (mkS (wordAt opsT 14))) ∧ Below W.heap.size W w') := fun W => opName_calls 14 W (by omega) (by omega)
  obtain ⟨nm, hnmE⟩ : ∃ nm, wordAt opsT 14 = nm := ⟨_, rfl⟩
  rw [hnmE] at hnm ⊢
  clear hnmE
  go_enter Tryz.func12, Tryz.ntmps12
  go_wp2_with (go_at_call 29; fail)
  refine (hnm.out _).mono ?_
  rintro e W2 ⟨rfl, hb2⟩
  obtain ⟨hB3, hi3, hne3, hw3, hle3⟩ := firstWord w W2 #[.int .i64 14, .int .i64 (j : Int), .int .i64 a, .int .i64 b, .string T, .string C, .string N, .string Y, .slice ta n tc] nm hb2
  have hB3H : Hid (Below w.heap.size w (W2.alloc (.cells #[.string (mkS nm)] 9))) := hB3
  have hwk : Hid (Wrk w.heap.size (W2.alloc (.cells #[.string (mkS nm)] 9)) (.slice (some ⟨W2.heap.size, 0, none⟩) 1 1) [nm] (.slice (some ⟨W2.heap.size, 0, none⟩) 1 1) (W2.alloc (.cells #[.string (mkS nm)] 9))) := Wrk.start hw3 hle3
  have hcl : Hid (∀ (W : World) (ws : List (List UInt8)) (v : Value), Wrk w.heap.size (W2.alloc (.cells #[.string (mkS nm)] 9)) (.slice (some ⟨W2.heap.size, 0, none⟩) 1 1) ws v W → ∀ ix, W.cell? ⟨w.heap.size, ix, none⟩ = #[.int .i64 14, .int .i64 (j : Int), .int .i64 a, .int .i64 b, .string T, .string C, .string N, .string Y, .slice ta n tc][ix]?) := fun W ws v h ix => h.ins hi3 (by simp only [Value.ownBlock]; intro e; injection e with e; omega) ix
  have hlt2 : w.heap.size < W2.heap.size := by have := hb2.size; simp at this; omega
  have cW : ∀ ix, W2.cell? ⟨w.heap.size, ix, none⟩ = #[.int .i64 14, .int .i64 (j : Int), .int .i64 a, .int .i64 b, .string T, .string C, .string N, .string Y, .slice ta n tc][ix]? := fun ix => by
    have h := hcl.out _ _ _ hwk.out ix
    rw [World.cell?_alloc_past _ _ _ (show w.heap.size < W2.heap.size from hlt2)] at h
    exact h
  have c0 : W2.cell? ⟨w.heap.size, 0, none⟩ = some (.int .i64 14) := cW 0
  have c1 : W2.cell? ⟨w.heap.size, 1, none⟩ = some (.int .i64 (j : Int)) := cW 1
  have c2 : W2.cell? ⟨w.heap.size, 2, none⟩ = some (.int .i64 a) := cW 2
  have c3 : W2.cell? ⟨w.heap.size, 3, none⟩ = some (.int .i64 b) := cW 3
  have c4 : W2.cell? ⟨w.heap.size, 4, none⟩ = some (.string T) := cW 4
  have c5 : W2.cell? ⟨w.heap.size, 5, none⟩ = some (.string C) := cW 5
  have c6 : W2.cell? ⟨w.heap.size, 6, none⟩ = some (.string N) := cW 6
  have c7 : W2.cell? ⟨w.heap.size, 7, none⟩ = some (.string Y) := cW 7
  have c8 : W2.cell? ⟨w.heap.size, 8, none⟩ = some (.slice ta n tc) := cW 8
  clear hb2 hB3 hi3 hne3 hw3 hle3 hnm cW
  go_wp2_with (first
      | (go_at_call 30; refine (letter_calls j _ (by omega)).mono ?_; rintro e Wn ⟨rfl, hbn⟩; have hwk2 : Hid (Wrk w.heap.size (W2.alloc (.cells #[.string (mkS nm)] 9)) (.slice (some ⟨W2.heap.size, 0, none⟩) 1 1) [nm] (.slice (some ⟨W2.heap.size, 0, none⟩) 1 1) Wn) := hwk.out.call hbn; clear hbn)
      | (at_builtin; refine appN rfl _ _ _ rfl w.heap.size (W2.alloc (.cells #[.string (mkS nm)] 9)) (.slice (some ⟨W2.heap.size, 0, none⟩) 1 1) (.slice (some ⟨W2.heap.size, 0, none⟩) 1 1) [nm] [wordAt letT j] 1 _ rfl rfl rfl (cellsN _ _ [wordAt letT j] _ _ rfl (by simp)) (hwk2.out.alloc _) (by simp) ?_; intro v' w' hvH))
  all_goals (go_ret; exact ⟨_, rfl, hvH.out.words, hB3H.out.trans hvH.out.below⟩)


set_option maxRecDepth 1000000 in
set_option maxHeartbeats 8000000 in
theorem sw15 (a b : Int) (j : Nat) (T C N Y : ByteArray) (ta : Option Addr) (n tc : Nat) (w : World) (hj : j < 8) :
    Calls Tryz.prog 12 #[insV 15 (j : Int) a b T C N Y (.slice ta n tc)] w fun e w' => ∃ v, e = .returned v ∧ WordsAt w.heap.size w' v (wordAt opsT 15 :: [wordAt letT j]) ∧ Below w.heap.size w w' := by
  have hnm : Hid (∀ W, Calls Tryz.prog 29 #[.int .i64 15] W fun e w' => e = .returned (.string (mkS (wordAt opsT 15))) ∧ Below W.heap.size W w') := fun W => opName_calls 15 W (by omega) (by omega)
  obtain ⟨nm, hnmE⟩ : ∃ nm, wordAt opsT 15 = nm := ⟨_, rfl⟩
  rw [hnmE] at hnm ⊢
  clear hnmE
  go_enter Tryz.func12, Tryz.ntmps12
  go_wp2_with (go_at_call 29; fail)
  refine (hnm.out _).mono ?_
  rintro e W2 ⟨rfl, hb2⟩
  obtain ⟨hB3, hi3, hne3, hw3, hle3⟩ := firstWord w W2 #[.int .i64 15, .int .i64 (j : Int), .int .i64 a, .int .i64 b, .string T, .string C, .string N, .string Y, .slice ta n tc] nm hb2
  have hB3H : Hid (Below w.heap.size w (W2.alloc (.cells #[.string (mkS nm)] 9))) := hB3
  have hwk : Hid (Wrk w.heap.size (W2.alloc (.cells #[.string (mkS nm)] 9)) (.slice (some ⟨W2.heap.size, 0, none⟩) 1 1) [nm] (.slice (some ⟨W2.heap.size, 0, none⟩) 1 1) (W2.alloc (.cells #[.string (mkS nm)] 9))) := Wrk.start hw3 hle3
  have hcl : Hid (∀ (W : World) (ws : List (List UInt8)) (v : Value), Wrk w.heap.size (W2.alloc (.cells #[.string (mkS nm)] 9)) (.slice (some ⟨W2.heap.size, 0, none⟩) 1 1) ws v W → ∀ ix, W.cell? ⟨w.heap.size, ix, none⟩ = #[.int .i64 15, .int .i64 (j : Int), .int .i64 a, .int .i64 b, .string T, .string C, .string N, .string Y, .slice ta n tc][ix]?) := fun W ws v h ix => h.ins hi3 (by simp only [Value.ownBlock]; intro e; injection e with e; omega) ix
  have hlt2 : w.heap.size < W2.heap.size := by have := hb2.size; simp at this; omega
  have cW : ∀ ix, W2.cell? ⟨w.heap.size, ix, none⟩ = #[.int .i64 15, .int .i64 (j : Int), .int .i64 a, .int .i64 b, .string T, .string C, .string N, .string Y, .slice ta n tc][ix]? := fun ix => by
    have h := hcl.out _ _ _ hwk.out ix
    rw [World.cell?_alloc_past _ _ _ (show w.heap.size < W2.heap.size from hlt2)] at h
    exact h
  have c0 : W2.cell? ⟨w.heap.size, 0, none⟩ = some (.int .i64 15) := cW 0
  have c1 : W2.cell? ⟨w.heap.size, 1, none⟩ = some (.int .i64 (j : Int)) := cW 1
  have c2 : W2.cell? ⟨w.heap.size, 2, none⟩ = some (.int .i64 a) := cW 2
  have c3 : W2.cell? ⟨w.heap.size, 3, none⟩ = some (.int .i64 b) := cW 3
  have c4 : W2.cell? ⟨w.heap.size, 4, none⟩ = some (.string T) := cW 4
  have c5 : W2.cell? ⟨w.heap.size, 5, none⟩ = some (.string C) := cW 5
  have c6 : W2.cell? ⟨w.heap.size, 6, none⟩ = some (.string N) := cW 6
  have c7 : W2.cell? ⟨w.heap.size, 7, none⟩ = some (.string Y) := cW 7
  have c8 : W2.cell? ⟨w.heap.size, 8, none⟩ = some (.slice ta n tc) := cW 8
  clear hb2 hB3 hi3 hne3 hw3 hle3 hnm cW
  go_wp2_with (first
      | (go_at_call 30; refine (letter_calls j _ (by omega)).mono ?_; rintro e Wn ⟨rfl, hbn⟩; have hwk2 : Hid (Wrk w.heap.size (W2.alloc (.cells #[.string (mkS nm)] 9)) (.slice (some ⟨W2.heap.size, 0, none⟩) 1 1) [nm] (.slice (some ⟨W2.heap.size, 0, none⟩) 1 1) Wn) := hwk.out.call hbn; clear hbn)
      | (at_builtin; refine appN rfl _ _ _ rfl w.heap.size (W2.alloc (.cells #[.string (mkS nm)] 9)) (.slice (some ⟨W2.heap.size, 0, none⟩) 1 1) (.slice (some ⟨W2.heap.size, 0, none⟩) 1 1) [nm] [wordAt letT j] 1 _ rfl rfl rfl (cellsN _ _ [wordAt letT j] _ _ rfl (by simp)) (hwk2.out.alloc _) (by simp) ?_; intro v' w' hvH))
  all_goals (go_ret; exact ⟨_, rfl, hvH.out.words, hB3H.out.trans hvH.out.below⟩)


set_option maxRecDepth 1000000 in
set_option maxHeartbeats 8000000 in
theorem sw16 (a b : Int) (j : Nat) (T C N Y : ByteArray) (ta : Option Addr) (n tc : Nat) (w : World) (hj : j < 8) :
    Calls Tryz.prog 12 #[insV 16 (j : Int) a b T C N Y (.slice ta n tc)] w fun e w' => ∃ v, e = .returned v ∧ WordsAt w.heap.size w' v (wordAt opsT 16 :: [wordAt letT j]) ∧ Below w.heap.size w w' := by
  have hnm : Hid (∀ W, Calls Tryz.prog 29 #[.int .i64 16] W fun e w' => e = .returned (.string (mkS (wordAt opsT 16))) ∧ Below W.heap.size W w') := fun W => opName_calls 16 W (by omega) (by omega)
  obtain ⟨nm, hnmE⟩ : ∃ nm, wordAt opsT 16 = nm := ⟨_, rfl⟩
  rw [hnmE] at hnm ⊢
  clear hnmE
  go_enter Tryz.func12, Tryz.ntmps12
  go_wp2_with (go_at_call 29; fail)
  refine (hnm.out _).mono ?_
  rintro e W2 ⟨rfl, hb2⟩
  obtain ⟨hB3, hi3, hne3, hw3, hle3⟩ := firstWord w W2 #[.int .i64 16, .int .i64 (j : Int), .int .i64 a, .int .i64 b, .string T, .string C, .string N, .string Y, .slice ta n tc] nm hb2
  have hB3H : Hid (Below w.heap.size w (W2.alloc (.cells #[.string (mkS nm)] 9))) := hB3
  have hwk : Hid (Wrk w.heap.size (W2.alloc (.cells #[.string (mkS nm)] 9)) (.slice (some ⟨W2.heap.size, 0, none⟩) 1 1) [nm] (.slice (some ⟨W2.heap.size, 0, none⟩) 1 1) (W2.alloc (.cells #[.string (mkS nm)] 9))) := Wrk.start hw3 hle3
  have hcl : Hid (∀ (W : World) (ws : List (List UInt8)) (v : Value), Wrk w.heap.size (W2.alloc (.cells #[.string (mkS nm)] 9)) (.slice (some ⟨W2.heap.size, 0, none⟩) 1 1) ws v W → ∀ ix, W.cell? ⟨w.heap.size, ix, none⟩ = #[.int .i64 16, .int .i64 (j : Int), .int .i64 a, .int .i64 b, .string T, .string C, .string N, .string Y, .slice ta n tc][ix]?) := fun W ws v h ix => h.ins hi3 (by simp only [Value.ownBlock]; intro e; injection e with e; omega) ix
  have hlt2 : w.heap.size < W2.heap.size := by have := hb2.size; simp at this; omega
  have cW : ∀ ix, W2.cell? ⟨w.heap.size, ix, none⟩ = #[.int .i64 16, .int .i64 (j : Int), .int .i64 a, .int .i64 b, .string T, .string C, .string N, .string Y, .slice ta n tc][ix]? := fun ix => by
    have h := hcl.out _ _ _ hwk.out ix
    rw [World.cell?_alloc_past _ _ _ (show w.heap.size < W2.heap.size from hlt2)] at h
    exact h
  have c0 : W2.cell? ⟨w.heap.size, 0, none⟩ = some (.int .i64 16) := cW 0
  have c1 : W2.cell? ⟨w.heap.size, 1, none⟩ = some (.int .i64 (j : Int)) := cW 1
  have c2 : W2.cell? ⟨w.heap.size, 2, none⟩ = some (.int .i64 a) := cW 2
  have c3 : W2.cell? ⟨w.heap.size, 3, none⟩ = some (.int .i64 b) := cW 3
  have c4 : W2.cell? ⟨w.heap.size, 4, none⟩ = some (.string T) := cW 4
  have c5 : W2.cell? ⟨w.heap.size, 5, none⟩ = some (.string C) := cW 5
  have c6 : W2.cell? ⟨w.heap.size, 6, none⟩ = some (.string N) := cW 6
  have c7 : W2.cell? ⟨w.heap.size, 7, none⟩ = some (.string Y) := cW 7
  have c8 : W2.cell? ⟨w.heap.size, 8, none⟩ = some (.slice ta n tc) := cW 8
  clear hb2 hB3 hi3 hne3 hw3 hle3 hnm cW
  go_wp2_with (first
      | (go_at_call 30; refine (letter_calls j _ (by omega)).mono ?_; rintro e Wn ⟨rfl, hbn⟩; have hwk2 : Hid (Wrk w.heap.size (W2.alloc (.cells #[.string (mkS nm)] 9)) (.slice (some ⟨W2.heap.size, 0, none⟩) 1 1) [nm] (.slice (some ⟨W2.heap.size, 0, none⟩) 1 1) Wn) := hwk.out.call hbn; clear hbn)
      | (at_builtin; refine appN rfl _ _ _ rfl w.heap.size (W2.alloc (.cells #[.string (mkS nm)] 9)) (.slice (some ⟨W2.heap.size, 0, none⟩) 1 1) (.slice (some ⟨W2.heap.size, 0, none⟩) 1 1) [nm] [wordAt letT j] 1 _ rfl rfl rfl (cellsN _ _ [wordAt letT j] _ _ rfl (by simp)) (hwk2.out.alloc _) (by simp) ?_; intro v' w' hvH))
  all_goals (go_ret; exact ⟨_, rfl, hvH.out.words, hB3H.out.trans hvH.out.below⟩)


set_option maxRecDepth 1000000 in
set_option maxHeartbeats 8000000 in
theorem sw17 (a b : Int) (j : Nat) (T C N Y : ByteArray) (ta : Option Addr) (n tc : Nat) (w : World) (hj : j < 8) :
    Calls Tryz.prog 12 #[insV 17 (j : Int) a b T C N Y (.slice ta n tc)] w fun e w' => ∃ v, e = .returned v ∧ WordsAt w.heap.size w' v (wordAt opsT 17 :: [wordAt letT j]) ∧ Below w.heap.size w w' := by
  have hnm : Hid (∀ W, Calls Tryz.prog 29 #[.int .i64 17] W fun e w' => e = .returned (.string (mkS (wordAt opsT 17))) ∧ Below W.heap.size W w') := fun W => opName_calls 17 W (by omega) (by omega)
  obtain ⟨nm, hnmE⟩ : ∃ nm, wordAt opsT 17 = nm := ⟨_, rfl⟩
  rw [hnmE] at hnm ⊢
  clear hnmE
  go_enter Tryz.func12, Tryz.ntmps12
  go_wp2_with (go_at_call 29; fail)
  refine (hnm.out _).mono ?_
  rintro e W2 ⟨rfl, hb2⟩
  obtain ⟨hB3, hi3, hne3, hw3, hle3⟩ := firstWord w W2 #[.int .i64 17, .int .i64 (j : Int), .int .i64 a, .int .i64 b, .string T, .string C, .string N, .string Y, .slice ta n tc] nm hb2
  have hB3H : Hid (Below w.heap.size w (W2.alloc (.cells #[.string (mkS nm)] 9))) := hB3
  have hwk : Hid (Wrk w.heap.size (W2.alloc (.cells #[.string (mkS nm)] 9)) (.slice (some ⟨W2.heap.size, 0, none⟩) 1 1) [nm] (.slice (some ⟨W2.heap.size, 0, none⟩) 1 1) (W2.alloc (.cells #[.string (mkS nm)] 9))) := Wrk.start hw3 hle3
  have hcl : Hid (∀ (W : World) (ws : List (List UInt8)) (v : Value), Wrk w.heap.size (W2.alloc (.cells #[.string (mkS nm)] 9)) (.slice (some ⟨W2.heap.size, 0, none⟩) 1 1) ws v W → ∀ ix, W.cell? ⟨w.heap.size, ix, none⟩ = #[.int .i64 17, .int .i64 (j : Int), .int .i64 a, .int .i64 b, .string T, .string C, .string N, .string Y, .slice ta n tc][ix]?) := fun W ws v h ix => h.ins hi3 (by simp only [Value.ownBlock]; intro e; injection e with e; omega) ix
  have hlt2 : w.heap.size < W2.heap.size := by have := hb2.size; simp at this; omega
  have cW : ∀ ix, W2.cell? ⟨w.heap.size, ix, none⟩ = #[.int .i64 17, .int .i64 (j : Int), .int .i64 a, .int .i64 b, .string T, .string C, .string N, .string Y, .slice ta n tc][ix]? := fun ix => by
    have h := hcl.out _ _ _ hwk.out ix
    rw [World.cell?_alloc_past _ _ _ (show w.heap.size < W2.heap.size from hlt2)] at h
    exact h
  have c0 : W2.cell? ⟨w.heap.size, 0, none⟩ = some (.int .i64 17) := cW 0
  have c1 : W2.cell? ⟨w.heap.size, 1, none⟩ = some (.int .i64 (j : Int)) := cW 1
  have c2 : W2.cell? ⟨w.heap.size, 2, none⟩ = some (.int .i64 a) := cW 2
  have c3 : W2.cell? ⟨w.heap.size, 3, none⟩ = some (.int .i64 b) := cW 3
  have c4 : W2.cell? ⟨w.heap.size, 4, none⟩ = some (.string T) := cW 4
  have c5 : W2.cell? ⟨w.heap.size, 5, none⟩ = some (.string C) := cW 5
  have c6 : W2.cell? ⟨w.heap.size, 6, none⟩ = some (.string N) := cW 6
  have c7 : W2.cell? ⟨w.heap.size, 7, none⟩ = some (.string Y) := cW 7
  have c8 : W2.cell? ⟨w.heap.size, 8, none⟩ = some (.slice ta n tc) := cW 8
  clear hb2 hB3 hi3 hne3 hw3 hle3 hnm cW
  go_wp2_with (first
      | (go_at_call 30; refine (letter_calls j _ (by omega)).mono ?_; rintro e Wn ⟨rfl, hbn⟩; have hwk2 : Hid (Wrk w.heap.size (W2.alloc (.cells #[.string (mkS nm)] 9)) (.slice (some ⟨W2.heap.size, 0, none⟩) 1 1) [nm] (.slice (some ⟨W2.heap.size, 0, none⟩) 1 1) Wn) := hwk.out.call hbn; clear hbn)
      | (at_builtin; refine appN rfl _ _ _ rfl w.heap.size (W2.alloc (.cells #[.string (mkS nm)] 9)) (.slice (some ⟨W2.heap.size, 0, none⟩) 1 1) (.slice (some ⟨W2.heap.size, 0, none⟩) 1 1) [nm] [wordAt letT j] 1 _ rfl rfl rfl (cellsN _ _ [wordAt letT j] _ _ rfl (by simp)) (hwk2.out.alloc _) (by simp) ?_; intro v' w' hvH))
  all_goals (go_ret; exact ⟨_, rfl, hvH.out.words, hB3H.out.trans hvH.out.below⟩)


set_option maxRecDepth 1000000 in
set_option maxHeartbeats 8000000 in
theorem sw18 (a b : Int) (j : Nat) (T C N Y : ByteArray) (ta : Option Addr) (n tc : Nat) (w : World) (hj : j < 8) :
    Calls Tryz.prog 12 #[insV 18 (j : Int) a b T C N Y (.slice ta n tc)] w fun e w' => ∃ v, e = .returned v ∧ WordsAt w.heap.size w' v (wordAt opsT 18 :: [wordAt letT j]) ∧ Below w.heap.size w w' := by
  have hnm : Hid (∀ W, Calls Tryz.prog 29 #[.int .i64 18] W fun e w' => e = .returned (.string (mkS (wordAt opsT 18))) ∧ Below W.heap.size W w') := fun W => opName_calls 18 W (by omega) (by omega)
  obtain ⟨nm, hnmE⟩ : ∃ nm, wordAt opsT 18 = nm := ⟨_, rfl⟩
  rw [hnmE] at hnm ⊢
  clear hnmE
  go_enter Tryz.func12, Tryz.ntmps12
  go_wp2_with (go_at_call 29; fail)
  refine (hnm.out _).mono ?_
  rintro e W2 ⟨rfl, hb2⟩
  obtain ⟨hB3, hi3, hne3, hw3, hle3⟩ := firstWord w W2 #[.int .i64 18, .int .i64 (j : Int), .int .i64 a, .int .i64 b, .string T, .string C, .string N, .string Y, .slice ta n tc] nm hb2
  have hB3H : Hid (Below w.heap.size w (W2.alloc (.cells #[.string (mkS nm)] 9))) := hB3
  have hwk : Hid (Wrk w.heap.size (W2.alloc (.cells #[.string (mkS nm)] 9)) (.slice (some ⟨W2.heap.size, 0, none⟩) 1 1) [nm] (.slice (some ⟨W2.heap.size, 0, none⟩) 1 1) (W2.alloc (.cells #[.string (mkS nm)] 9))) := Wrk.start hw3 hle3
  have hcl : Hid (∀ (W : World) (ws : List (List UInt8)) (v : Value), Wrk w.heap.size (W2.alloc (.cells #[.string (mkS nm)] 9)) (.slice (some ⟨W2.heap.size, 0, none⟩) 1 1) ws v W → ∀ ix, W.cell? ⟨w.heap.size, ix, none⟩ = #[.int .i64 18, .int .i64 (j : Int), .int .i64 a, .int .i64 b, .string T, .string C, .string N, .string Y, .slice ta n tc][ix]?) := fun W ws v h ix => h.ins hi3 (by simp only [Value.ownBlock]; intro e; injection e with e; omega) ix
  have hlt2 : w.heap.size < W2.heap.size := by have := hb2.size; simp at this; omega
  have cW : ∀ ix, W2.cell? ⟨w.heap.size, ix, none⟩ = #[.int .i64 18, .int .i64 (j : Int), .int .i64 a, .int .i64 b, .string T, .string C, .string N, .string Y, .slice ta n tc][ix]? := fun ix => by
    have h := hcl.out _ _ _ hwk.out ix
    rw [World.cell?_alloc_past _ _ _ (show w.heap.size < W2.heap.size from hlt2)] at h
    exact h
  have c0 : W2.cell? ⟨w.heap.size, 0, none⟩ = some (.int .i64 18) := cW 0
  have c1 : W2.cell? ⟨w.heap.size, 1, none⟩ = some (.int .i64 (j : Int)) := cW 1
  have c2 : W2.cell? ⟨w.heap.size, 2, none⟩ = some (.int .i64 a) := cW 2
  have c3 : W2.cell? ⟨w.heap.size, 3, none⟩ = some (.int .i64 b) := cW 3
  have c4 : W2.cell? ⟨w.heap.size, 4, none⟩ = some (.string T) := cW 4
  have c5 : W2.cell? ⟨w.heap.size, 5, none⟩ = some (.string C) := cW 5
  have c6 : W2.cell? ⟨w.heap.size, 6, none⟩ = some (.string N) := cW 6
  have c7 : W2.cell? ⟨w.heap.size, 7, none⟩ = some (.string Y) := cW 7
  have c8 : W2.cell? ⟨w.heap.size, 8, none⟩ = some (.slice ta n tc) := cW 8
  clear hb2 hB3 hi3 hne3 hw3 hle3 hnm cW
  go_wp2_with (first
      | (go_at_call 30; refine (letter_calls j _ (by omega)).mono ?_; rintro e Wn ⟨rfl, hbn⟩; have hwk2 : Hid (Wrk w.heap.size (W2.alloc (.cells #[.string (mkS nm)] 9)) (.slice (some ⟨W2.heap.size, 0, none⟩) 1 1) [nm] (.slice (some ⟨W2.heap.size, 0, none⟩) 1 1) Wn) := hwk.out.call hbn; clear hbn)
      | (at_builtin; refine appN rfl _ _ _ rfl w.heap.size (W2.alloc (.cells #[.string (mkS nm)] 9)) (.slice (some ⟨W2.heap.size, 0, none⟩) 1 1) (.slice (some ⟨W2.heap.size, 0, none⟩) 1 1) [nm] [wordAt letT j] 1 _ rfl rfl rfl (cellsN _ _ [wordAt letT j] _ _ rfl (by simp)) (hwk2.out.alloc _) (by simp) ?_; intro v' w' hvH))
  all_goals (go_ret; exact ⟨_, rfl, hvH.out.words, hB3H.out.trans hvH.out.below⟩)


set_option maxRecDepth 1000000 in
set_option maxHeartbeats 8000000 in
theorem sw19 (a b : Int) (j : Nat) (T C N Y : ByteArray) (ta : Option Addr) (n tc : Nat) (w : World) (hj : j < 8) :
    Calls Tryz.prog 12 #[insV 19 (j : Int) a b T C N Y (.slice ta n tc)] w fun e w' => ∃ v, e = .returned v ∧ WordsAt w.heap.size w' v (wordAt opsT 19 :: [wordAt letT j]) ∧ Below w.heap.size w w' := by
  have hnm : Hid (∀ W, Calls Tryz.prog 29 #[.int .i64 19] W fun e w' => e = .returned (.string (mkS (wordAt opsT 19))) ∧ Below W.heap.size W w') := fun W => opName_calls 19 W (by omega) (by omega)
  obtain ⟨nm, hnmE⟩ : ∃ nm, wordAt opsT 19 = nm := ⟨_, rfl⟩
  rw [hnmE] at hnm ⊢
  clear hnmE
  go_enter Tryz.func12, Tryz.ntmps12
  go_wp2_with (go_at_call 29; fail)
  refine (hnm.out _).mono ?_
  rintro e W2 ⟨rfl, hb2⟩
  obtain ⟨hB3, hi3, hne3, hw3, hle3⟩ := firstWord w W2 #[.int .i64 19, .int .i64 (j : Int), .int .i64 a, .int .i64 b, .string T, .string C, .string N, .string Y, .slice ta n tc] nm hb2
  have hB3H : Hid (Below w.heap.size w (W2.alloc (.cells #[.string (mkS nm)] 9))) := hB3
  have hwk : Hid (Wrk w.heap.size (W2.alloc (.cells #[.string (mkS nm)] 9)) (.slice (some ⟨W2.heap.size, 0, none⟩) 1 1) [nm] (.slice (some ⟨W2.heap.size, 0, none⟩) 1 1) (W2.alloc (.cells #[.string (mkS nm)] 9))) := Wrk.start hw3 hle3
  have hcl : Hid (∀ (W : World) (ws : List (List UInt8)) (v : Value), Wrk w.heap.size (W2.alloc (.cells #[.string (mkS nm)] 9)) (.slice (some ⟨W2.heap.size, 0, none⟩) 1 1) ws v W → ∀ ix, W.cell? ⟨w.heap.size, ix, none⟩ = #[.int .i64 19, .int .i64 (j : Int), .int .i64 a, .int .i64 b, .string T, .string C, .string N, .string Y, .slice ta n tc][ix]?) := fun W ws v h ix => h.ins hi3 (by simp only [Value.ownBlock]; intro e; injection e with e; omega) ix
  have hlt2 : w.heap.size < W2.heap.size := by have := hb2.size; simp at this; omega
  have cW : ∀ ix, W2.cell? ⟨w.heap.size, ix, none⟩ = #[.int .i64 19, .int .i64 (j : Int), .int .i64 a, .int .i64 b, .string T, .string C, .string N, .string Y, .slice ta n tc][ix]? := fun ix => by
    have h := hcl.out _ _ _ hwk.out ix
    rw [World.cell?_alloc_past _ _ _ (show w.heap.size < W2.heap.size from hlt2)] at h
    exact h
  have c0 : W2.cell? ⟨w.heap.size, 0, none⟩ = some (.int .i64 19) := cW 0
  have c1 : W2.cell? ⟨w.heap.size, 1, none⟩ = some (.int .i64 (j : Int)) := cW 1
  have c2 : W2.cell? ⟨w.heap.size, 2, none⟩ = some (.int .i64 a) := cW 2
  have c3 : W2.cell? ⟨w.heap.size, 3, none⟩ = some (.int .i64 b) := cW 3
  have c4 : W2.cell? ⟨w.heap.size, 4, none⟩ = some (.string T) := cW 4
  have c5 : W2.cell? ⟨w.heap.size, 5, none⟩ = some (.string C) := cW 5
  have c6 : W2.cell? ⟨w.heap.size, 6, none⟩ = some (.string N) := cW 6
  have c7 : W2.cell? ⟨w.heap.size, 7, none⟩ = some (.string Y) := cW 7
  have c8 : W2.cell? ⟨w.heap.size, 8, none⟩ = some (.slice ta n tc) := cW 8
  clear hb2 hB3 hi3 hne3 hw3 hle3 hnm cW
  go_wp2_with (first
      | (go_at_call 30; refine (letter_calls j _ (by omega)).mono ?_; rintro e Wn ⟨rfl, hbn⟩; have hwk2 : Hid (Wrk w.heap.size (W2.alloc (.cells #[.string (mkS nm)] 9)) (.slice (some ⟨W2.heap.size, 0, none⟩) 1 1) [nm] (.slice (some ⟨W2.heap.size, 0, none⟩) 1 1) Wn) := hwk.out.call hbn; clear hbn)
      | (at_builtin; refine appN rfl _ _ _ rfl w.heap.size (W2.alloc (.cells #[.string (mkS nm)] 9)) (.slice (some ⟨W2.heap.size, 0, none⟩) 1 1) (.slice (some ⟨W2.heap.size, 0, none⟩) 1 1) [nm] [wordAt letT j] 1 _ rfl rfl rfl (cellsN _ _ [wordAt letT j] _ _ rfl (by simp)) (hwk2.out.alloc _) (by simp) ?_; intro v' w' hvH))
  all_goals (go_ret; exact ⟨_, rfl, hvH.out.words, hB3H.out.trans hvH.out.below⟩)


set_option maxRecDepth 1000000 in
set_option maxHeartbeats 8000000 in
theorem sw20 (a b : Int) (j : Nat) (T C N Y : ByteArray) (ta : Option Addr) (n tc : Nat) (w : World) (hj : j < 8) :
    Calls Tryz.prog 12 #[insV 20 (j : Int) a b T C N Y (.slice ta n tc)] w fun e w' => ∃ v, e = .returned v ∧ WordsAt w.heap.size w' v (wordAt opsT 20 :: [wordAt letT j]) ∧ Below w.heap.size w w' := by
  have hnm : Hid (∀ W, Calls Tryz.prog 29 #[.int .i64 20] W fun e w' => e = .returned (.string (mkS (wordAt opsT 20))) ∧ Below W.heap.size W w') := fun W => opName_calls 20 W (by omega) (by omega)
  obtain ⟨nm, hnmE⟩ : ∃ nm, wordAt opsT 20 = nm := ⟨_, rfl⟩
  rw [hnmE] at hnm ⊢
  clear hnmE
  go_enter Tryz.func12, Tryz.ntmps12
  go_wp2_with (go_at_call 29; fail)
  refine (hnm.out _).mono ?_
  rintro e W2 ⟨rfl, hb2⟩
  obtain ⟨hB3, hi3, hne3, hw3, hle3⟩ := firstWord w W2 #[.int .i64 20, .int .i64 (j : Int), .int .i64 a, .int .i64 b, .string T, .string C, .string N, .string Y, .slice ta n tc] nm hb2
  have hB3H : Hid (Below w.heap.size w (W2.alloc (.cells #[.string (mkS nm)] 9))) := hB3
  have hwk : Hid (Wrk w.heap.size (W2.alloc (.cells #[.string (mkS nm)] 9)) (.slice (some ⟨W2.heap.size, 0, none⟩) 1 1) [nm] (.slice (some ⟨W2.heap.size, 0, none⟩) 1 1) (W2.alloc (.cells #[.string (mkS nm)] 9))) := Wrk.start hw3 hle3
  have hcl : Hid (∀ (W : World) (ws : List (List UInt8)) (v : Value), Wrk w.heap.size (W2.alloc (.cells #[.string (mkS nm)] 9)) (.slice (some ⟨W2.heap.size, 0, none⟩) 1 1) ws v W → ∀ ix, W.cell? ⟨w.heap.size, ix, none⟩ = #[.int .i64 20, .int .i64 (j : Int), .int .i64 a, .int .i64 b, .string T, .string C, .string N, .string Y, .slice ta n tc][ix]?) := fun W ws v h ix => h.ins hi3 (by simp only [Value.ownBlock]; intro e; injection e with e; omega) ix
  have hlt2 : w.heap.size < W2.heap.size := by have := hb2.size; simp at this; omega
  have cW : ∀ ix, W2.cell? ⟨w.heap.size, ix, none⟩ = #[.int .i64 20, .int .i64 (j : Int), .int .i64 a, .int .i64 b, .string T, .string C, .string N, .string Y, .slice ta n tc][ix]? := fun ix => by
    have h := hcl.out _ _ _ hwk.out ix
    rw [World.cell?_alloc_past _ _ _ (show w.heap.size < W2.heap.size from hlt2)] at h
    exact h
  have c0 : W2.cell? ⟨w.heap.size, 0, none⟩ = some (.int .i64 20) := cW 0
  have c1 : W2.cell? ⟨w.heap.size, 1, none⟩ = some (.int .i64 (j : Int)) := cW 1
  have c2 : W2.cell? ⟨w.heap.size, 2, none⟩ = some (.int .i64 a) := cW 2
  have c3 : W2.cell? ⟨w.heap.size, 3, none⟩ = some (.int .i64 b) := cW 3
  have c4 : W2.cell? ⟨w.heap.size, 4, none⟩ = some (.string T) := cW 4
  have c5 : W2.cell? ⟨w.heap.size, 5, none⟩ = some (.string C) := cW 5
  have c6 : W2.cell? ⟨w.heap.size, 6, none⟩ = some (.string N) := cW 6
  have c7 : W2.cell? ⟨w.heap.size, 7, none⟩ = some (.string Y) := cW 7
  have c8 : W2.cell? ⟨w.heap.size, 8, none⟩ = some (.slice ta n tc) := cW 8
  clear hb2 hB3 hi3 hne3 hw3 hle3 hnm cW
  go_wp2_with (first
      | (go_at_call 30; refine (letter_calls j _ (by omega)).mono ?_; rintro e Wn ⟨rfl, hbn⟩; have hwk2 : Hid (Wrk w.heap.size (W2.alloc (.cells #[.string (mkS nm)] 9)) (.slice (some ⟨W2.heap.size, 0, none⟩) 1 1) [nm] (.slice (some ⟨W2.heap.size, 0, none⟩) 1 1) Wn) := hwk.out.call hbn; clear hbn)
      | (at_builtin; refine appN rfl _ _ _ rfl w.heap.size (W2.alloc (.cells #[.string (mkS nm)] 9)) (.slice (some ⟨W2.heap.size, 0, none⟩) 1 1) (.slice (some ⟨W2.heap.size, 0, none⟩) 1 1) [nm] [wordAt letT j] 1 _ rfl rfl rfl (cellsN _ _ [wordAt letT j] _ _ rfl (by simp)) (hwk2.out.alloc _) (by simp) ?_; intro v' w' hvH))
  all_goals (go_ret; exact ⟨_, rfl, hvH.out.words, hB3H.out.trans hvH.out.below⟩)


set_option maxRecDepth 1000000 in
set_option maxHeartbeats 8000000 in
theorem sw21 (a b : Int) (j : Nat) (T C N Y : ByteArray) (ta : Option Addr) (n tc : Nat) (w : World) (hj : j < 8) :
    Calls Tryz.prog 12 #[insV 21 (j : Int) a b T C N Y (.slice ta n tc)] w fun e w' => ∃ v, e = .returned v ∧ WordsAt w.heap.size w' v (wordAt opsT 21 :: [wordAt letT j]) ∧ Below w.heap.size w w' := by
  have hnm : Hid (∀ W, Calls Tryz.prog 29 #[.int .i64 21] W fun e w' => e = .returned (.string (mkS (wordAt opsT 21))) ∧ Below W.heap.size W w') := fun W => opName_calls 21 W (by omega) (by omega)
  obtain ⟨nm, hnmE⟩ : ∃ nm, wordAt opsT 21 = nm := ⟨_, rfl⟩
  rw [hnmE] at hnm ⊢
  clear hnmE
  go_enter Tryz.func12, Tryz.ntmps12
  go_wp2_with (go_at_call 29; fail)
  refine (hnm.out _).mono ?_
  rintro e W2 ⟨rfl, hb2⟩
  obtain ⟨hB3, hi3, hne3, hw3, hle3⟩ := firstWord w W2 #[.int .i64 21, .int .i64 (j : Int), .int .i64 a, .int .i64 b, .string T, .string C, .string N, .string Y, .slice ta n tc] nm hb2
  have hB3H : Hid (Below w.heap.size w (W2.alloc (.cells #[.string (mkS nm)] 9))) := hB3
  have hwk : Hid (Wrk w.heap.size (W2.alloc (.cells #[.string (mkS nm)] 9)) (.slice (some ⟨W2.heap.size, 0, none⟩) 1 1) [nm] (.slice (some ⟨W2.heap.size, 0, none⟩) 1 1) (W2.alloc (.cells #[.string (mkS nm)] 9))) := Wrk.start hw3 hle3
  have hcl : Hid (∀ (W : World) (ws : List (List UInt8)) (v : Value), Wrk w.heap.size (W2.alloc (.cells #[.string (mkS nm)] 9)) (.slice (some ⟨W2.heap.size, 0, none⟩) 1 1) ws v W → ∀ ix, W.cell? ⟨w.heap.size, ix, none⟩ = #[.int .i64 21, .int .i64 (j : Int), .int .i64 a, .int .i64 b, .string T, .string C, .string N, .string Y, .slice ta n tc][ix]?) := fun W ws v h ix => h.ins hi3 (by simp only [Value.ownBlock]; intro e; injection e with e; omega) ix
  have hlt2 : w.heap.size < W2.heap.size := by have := hb2.size; simp at this; omega
  have cW : ∀ ix, W2.cell? ⟨w.heap.size, ix, none⟩ = #[.int .i64 21, .int .i64 (j : Int), .int .i64 a, .int .i64 b, .string T, .string C, .string N, .string Y, .slice ta n tc][ix]? := fun ix => by
    have h := hcl.out _ _ _ hwk.out ix
    rw [World.cell?_alloc_past _ _ _ (show w.heap.size < W2.heap.size from hlt2)] at h
    exact h
  have c0 : W2.cell? ⟨w.heap.size, 0, none⟩ = some (.int .i64 21) := cW 0
  have c1 : W2.cell? ⟨w.heap.size, 1, none⟩ = some (.int .i64 (j : Int)) := cW 1
  have c2 : W2.cell? ⟨w.heap.size, 2, none⟩ = some (.int .i64 a) := cW 2
  have c3 : W2.cell? ⟨w.heap.size, 3, none⟩ = some (.int .i64 b) := cW 3
  have c4 : W2.cell? ⟨w.heap.size, 4, none⟩ = some (.string T) := cW 4
  have c5 : W2.cell? ⟨w.heap.size, 5, none⟩ = some (.string C) := cW 5
  have c6 : W2.cell? ⟨w.heap.size, 6, none⟩ = some (.string N) := cW 6
  have c7 : W2.cell? ⟨w.heap.size, 7, none⟩ = some (.string Y) := cW 7
  have c8 : W2.cell? ⟨w.heap.size, 8, none⟩ = some (.slice ta n tc) := cW 8
  clear hb2 hB3 hi3 hne3 hw3 hle3 hnm cW
  go_wp2_with (first
      | (go_at_call 30; refine (letter_calls j _ (by omega)).mono ?_; rintro e Wn ⟨rfl, hbn⟩; have hwk2 : Hid (Wrk w.heap.size (W2.alloc (.cells #[.string (mkS nm)] 9)) (.slice (some ⟨W2.heap.size, 0, none⟩) 1 1) [nm] (.slice (some ⟨W2.heap.size, 0, none⟩) 1 1) Wn) := hwk.out.call hbn; clear hbn)
      | (at_builtin; refine appN rfl _ _ _ rfl w.heap.size (W2.alloc (.cells #[.string (mkS nm)] 9)) (.slice (some ⟨W2.heap.size, 0, none⟩) 1 1) (.slice (some ⟨W2.heap.size, 0, none⟩) 1 1) [nm] [wordAt letT j] 1 _ rfl rfl rfl (cellsN _ _ [wordAt letT j] _ _ rfl (by simp)) (hwk2.out.alloc _) (by simp) ?_; intro v' w' hvH))
  all_goals (go_ret; exact ⟨_, rfl, hvH.out.words, hB3H.out.trans hvH.out.below⟩)


set_option maxRecDepth 1000000 in
set_option maxHeartbeats 8000000 in
theorem sw22 (a b : Int) (j : Nat) (T C N Y : ByteArray) (ta : Option Addr) (n tc : Nat) (w : World) (hj : j < 8) :
    Calls Tryz.prog 12 #[insV 22 (j : Int) a b T C N Y (.slice ta n tc)] w fun e w' => ∃ v, e = .returned v ∧ WordsAt w.heap.size w' v (wordAt opsT 22 :: [wordAt letT j]) ∧ Below w.heap.size w w' := by
  have hnm : Hid (∀ W, Calls Tryz.prog 29 #[.int .i64 22] W fun e w' => e = .returned (.string (mkS (wordAt opsT 22))) ∧ Below W.heap.size W w') := fun W => opName_calls 22 W (by omega) (by omega)
  obtain ⟨nm, hnmE⟩ : ∃ nm, wordAt opsT 22 = nm := ⟨_, rfl⟩
  rw [hnmE] at hnm ⊢
  clear hnmE
  go_enter Tryz.func12, Tryz.ntmps12
  go_wp2_with (go_at_call 29; fail)
  refine (hnm.out _).mono ?_
  rintro e W2 ⟨rfl, hb2⟩
  obtain ⟨hB3, hi3, hne3, hw3, hle3⟩ := firstWord w W2 #[.int .i64 22, .int .i64 (j : Int), .int .i64 a, .int .i64 b, .string T, .string C, .string N, .string Y, .slice ta n tc] nm hb2
  have hB3H : Hid (Below w.heap.size w (W2.alloc (.cells #[.string (mkS nm)] 9))) := hB3
  have hwk : Hid (Wrk w.heap.size (W2.alloc (.cells #[.string (mkS nm)] 9)) (.slice (some ⟨W2.heap.size, 0, none⟩) 1 1) [nm] (.slice (some ⟨W2.heap.size, 0, none⟩) 1 1) (W2.alloc (.cells #[.string (mkS nm)] 9))) := Wrk.start hw3 hle3
  have hcl : Hid (∀ (W : World) (ws : List (List UInt8)) (v : Value), Wrk w.heap.size (W2.alloc (.cells #[.string (mkS nm)] 9)) (.slice (some ⟨W2.heap.size, 0, none⟩) 1 1) ws v W → ∀ ix, W.cell? ⟨w.heap.size, ix, none⟩ = #[.int .i64 22, .int .i64 (j : Int), .int .i64 a, .int .i64 b, .string T, .string C, .string N, .string Y, .slice ta n tc][ix]?) := fun W ws v h ix => h.ins hi3 (by simp only [Value.ownBlock]; intro e; injection e with e; omega) ix
  have hlt2 : w.heap.size < W2.heap.size := by have := hb2.size; simp at this; omega
  have cW : ∀ ix, W2.cell? ⟨w.heap.size, ix, none⟩ = #[.int .i64 22, .int .i64 (j : Int), .int .i64 a, .int .i64 b, .string T, .string C, .string N, .string Y, .slice ta n tc][ix]? := fun ix => by
    have h := hcl.out _ _ _ hwk.out ix
    rw [World.cell?_alloc_past _ _ _ (show w.heap.size < W2.heap.size from hlt2)] at h
    exact h
  have c0 : W2.cell? ⟨w.heap.size, 0, none⟩ = some (.int .i64 22) := cW 0
  have c1 : W2.cell? ⟨w.heap.size, 1, none⟩ = some (.int .i64 (j : Int)) := cW 1
  have c2 : W2.cell? ⟨w.heap.size, 2, none⟩ = some (.int .i64 a) := cW 2
  have c3 : W2.cell? ⟨w.heap.size, 3, none⟩ = some (.int .i64 b) := cW 3
  have c4 : W2.cell? ⟨w.heap.size, 4, none⟩ = some (.string T) := cW 4
  have c5 : W2.cell? ⟨w.heap.size, 5, none⟩ = some (.string C) := cW 5
  have c6 : W2.cell? ⟨w.heap.size, 6, none⟩ = some (.string N) := cW 6
  have c7 : W2.cell? ⟨w.heap.size, 7, none⟩ = some (.string Y) := cW 7
  have c8 : W2.cell? ⟨w.heap.size, 8, none⟩ = some (.slice ta n tc) := cW 8
  clear hb2 hB3 hi3 hne3 hw3 hle3 hnm cW
  go_wp2_with (first
      | (go_at_call 30; refine (letter_calls j _ (by omega)).mono ?_; rintro e Wn ⟨rfl, hbn⟩; have hwk2 : Hid (Wrk w.heap.size (W2.alloc (.cells #[.string (mkS nm)] 9)) (.slice (some ⟨W2.heap.size, 0, none⟩) 1 1) [nm] (.slice (some ⟨W2.heap.size, 0, none⟩) 1 1) Wn) := hwk.out.call hbn; clear hbn)
      | (at_builtin; refine appN rfl _ _ _ rfl w.heap.size (W2.alloc (.cells #[.string (mkS nm)] 9)) (.slice (some ⟨W2.heap.size, 0, none⟩) 1 1) (.slice (some ⟨W2.heap.size, 0, none⟩) 1 1) [nm] [wordAt letT j] 1 _ rfl rfl rfl (cellsN _ _ [wordAt letT j] _ _ rfl (by simp)) (hwk2.out.alloc _) (by simp) ?_; intro v' w' hvH))
  all_goals (go_ret; exact ⟨_, rfl, hvH.out.words, hB3H.out.trans hvH.out.below⟩)


set_option maxRecDepth 1000000 in
set_option maxHeartbeats 8000000 in
theorem sw44 (a b : Int) (j : Nat) (T C N Y : ByteArray) (ta : Option Addr) (n tc : Nat) (w : World) (hj : j < 8) (hj0 : (0 : Int) < (j : Int)) :
    Calls Tryz.prog 12 #[insV 44 (j : Int) a b T C N Y (.slice ta n tc)] w fun e w' => ∃ v, e = .returned v ∧ WordsAt w.heap.size w' v (wordAt opsT 44 :: [wordAt letT j]) ∧ Below w.heap.size w w' := by
  have hnm : Hid (∀ W, Calls Tryz.prog 29 #[.int .i64 44] W fun e w' => e = .returned (.string (mkS (wordAt opsT 44))) ∧ Below W.heap.size W w') := fun W => opName_calls 44 W (by omega) (by omega)
  obtain ⟨nm, hnmE⟩ : ∃ nm, wordAt opsT 44 = nm := ⟨_, rfl⟩
  rw [hnmE] at hnm ⊢
  clear hnmE
  go_enter Tryz.func12, Tryz.ntmps12
  go_wp2_with (go_at_call 29; fail)
  refine (hnm.out _).mono ?_
  rintro e W2 ⟨rfl, hb2⟩
  obtain ⟨hB3, hi3, hne3, hw3, hle3⟩ := firstWord w W2 #[.int .i64 44, .int .i64 (j : Int), .int .i64 a, .int .i64 b, .string T, .string C, .string N, .string Y, .slice ta n tc] nm hb2
  have hB3H : Hid (Below w.heap.size w (W2.alloc (.cells #[.string (mkS nm)] 9))) := hB3
  have hwk : Hid (Wrk w.heap.size (W2.alloc (.cells #[.string (mkS nm)] 9)) (.slice (some ⟨W2.heap.size, 0, none⟩) 1 1) [nm] (.slice (some ⟨W2.heap.size, 0, none⟩) 1 1) (W2.alloc (.cells #[.string (mkS nm)] 9))) := Wrk.start hw3 hle3
  have hcl : Hid (∀ (W : World) (ws : List (List UInt8)) (v : Value), Wrk w.heap.size (W2.alloc (.cells #[.string (mkS nm)] 9)) (.slice (some ⟨W2.heap.size, 0, none⟩) 1 1) ws v W → ∀ ix, W.cell? ⟨w.heap.size, ix, none⟩ = #[.int .i64 44, .int .i64 (j : Int), .int .i64 a, .int .i64 b, .string T, .string C, .string N, .string Y, .slice ta n tc][ix]?) := fun W ws v h ix => h.ins hi3 (by simp only [Value.ownBlock]; intro e; injection e with e; omega) ix
  have hlt2 : w.heap.size < W2.heap.size := by have := hb2.size; simp at this; omega
  have cW : ∀ ix, W2.cell? ⟨w.heap.size, ix, none⟩ = #[.int .i64 44, .int .i64 (j : Int), .int .i64 a, .int .i64 b, .string T, .string C, .string N, .string Y, .slice ta n tc][ix]? := fun ix => by
    have h := hcl.out _ _ _ hwk.out ix
    rw [World.cell?_alloc_past _ _ _ (show w.heap.size < W2.heap.size from hlt2)] at h
    exact h
  have c0 : W2.cell? ⟨w.heap.size, 0, none⟩ = some (.int .i64 44) := cW 0
  have c1 : W2.cell? ⟨w.heap.size, 1, none⟩ = some (.int .i64 (j : Int)) := cW 1
  have c2 : W2.cell? ⟨w.heap.size, 2, none⟩ = some (.int .i64 a) := cW 2
  have c3 : W2.cell? ⟨w.heap.size, 3, none⟩ = some (.int .i64 b) := cW 3
  have c4 : W2.cell? ⟨w.heap.size, 4, none⟩ = some (.string T) := cW 4
  have c5 : W2.cell? ⟨w.heap.size, 5, none⟩ = some (.string C) := cW 5
  have c6 : W2.cell? ⟨w.heap.size, 6, none⟩ = some (.string N) := cW 6
  have c7 : W2.cell? ⟨w.heap.size, 7, none⟩ = some (.string Y) := cW 7
  have c8 : W2.cell? ⟨w.heap.size, 8, none⟩ = some (.slice ta n tc) := cW 8
  clear hb2 hB3 hi3 hne3 hw3 hle3 hnm cW
  go_wp2_with (first
      | (go_at_call 30; refine (letter_calls j _ (by omega)).mono ?_; rintro e Wn ⟨rfl, hbn⟩; have hwk2 : Hid (Wrk w.heap.size (W2.alloc (.cells #[.string (mkS nm)] 9)) (.slice (some ⟨W2.heap.size, 0, none⟩) 1 1) [nm] (.slice (some ⟨W2.heap.size, 0, none⟩) 1 1) Wn) := hwk.out.call hbn; clear hbn)
      | (at_builtin; refine appN rfl _ _ _ rfl w.heap.size (W2.alloc (.cells #[.string (mkS nm)] 9)) (.slice (some ⟨W2.heap.size, 0, none⟩) 1 1) (.slice (some ⟨W2.heap.size, 0, none⟩) 1 1) [nm] [wordAt letT j] 1 _ rfl rfl rfl (cellsN _ _ [wordAt letT j] _ _ rfl (by simp)) (hwk2.out.alloc _) (by simp) ?_; intro v' w' hvH))
  all_goals (go_ret; exact ⟨_, rfl, hvH.out.words, hB3H.out.trans hvH.out.below⟩)

end Go.Proofs.YtcencddbdidjjaaGreatDoor

/- spec.l3Words. -/
namespace Go.Proofs.YtcencddbdidjjaaGreatDoor
set_option linter.unusedVariables false
open Go.ChangeShapes Go.WideShapes Go.ChangeAt Go.RowKit

set_option maxRecDepth 1000000 in
set_option maxHeartbeats 8000000 in
theorem sw34 (k a b : Int) (T C N Y : ByteArray) (ta : Option Addr) (n tc : Nat) (w : World) :
    Calls Tryz.prog 12 #[insV 34 k a b T C N Y (.slice ta n tc)] w fun e w' => ∃ v, e = .returned v ∧ WordsAt w.heap.size w' v (wordAt opsT 34 :: [C.data.toList]) ∧ Below w.heap.size w w' := by
  have hnm : Hid (∀ W, Calls Tryz.prog 29 #[.int .i64 34] W fun e w' => e = .returned (.string (mkS (wordAt opsT 34))) ∧ Below W.heap.size W w') := fun W => opName_calls 34 W (by omega) (by omega)
  obtain ⟨nm, hnmE⟩ : ∃ nm, wordAt opsT 34 = nm := ⟨_, rfl⟩
  rw [hnmE] at hnm ⊢
  clear hnmE
  go_enter Tryz.func12, Tryz.ntmps12
  go_wp2_with (go_at_call 29; fail)
  refine (hnm.out _).mono ?_
  rintro e W2 ⟨rfl, hb2⟩
  obtain ⟨hB3, hi3, hne3, hw3, hle3⟩ := firstWord w W2 #[.int .i64 34, .int .i64 k, .int .i64 a, .int .i64 b, .string T, .string C, .string N, .string Y, .slice ta n tc] nm hb2
  have hB3H : Hid (Below w.heap.size w (W2.alloc (.cells #[.string (mkS nm)] 9))) := hB3
  have hwk : Hid (Wrk w.heap.size (W2.alloc (.cells #[.string (mkS nm)] 9)) (.slice (some ⟨W2.heap.size, 0, none⟩) 1 1) [nm] (.slice (some ⟨W2.heap.size, 0, none⟩) 1 1) (W2.alloc (.cells #[.string (mkS nm)] 9))) := Wrk.start hw3 hle3
  have hcl : Hid (∀ (W : World) (ws : List (List UInt8)) (v : Value), Wrk w.heap.size (W2.alloc (.cells #[.string (mkS nm)] 9)) (.slice (some ⟨W2.heap.size, 0, none⟩) 1 1) ws v W → ∀ ix, W.cell? ⟨w.heap.size, ix, none⟩ = #[.int .i64 34, .int .i64 k, .int .i64 a, .int .i64 b, .string T, .string C, .string N, .string Y, .slice ta n tc][ix]?) := fun W ws v h ix => h.ins hi3 (by simp only [Value.ownBlock]; intro e; injection e with e; omega) ix
  have hlt2 : w.heap.size < W2.heap.size := by have := hb2.size; simp at this; omega
  have cW : ∀ ix, W2.cell? ⟨w.heap.size, ix, none⟩ = #[.int .i64 34, .int .i64 k, .int .i64 a, .int .i64 b, .string T, .string C, .string N, .string Y, .slice ta n tc][ix]? := fun ix => by
    have h := hcl.out _ _ _ hwk.out ix
    rw [World.cell?_alloc_past _ _ _ (show w.heap.size < W2.heap.size from hlt2)] at h
    exact h
  have c0 : W2.cell? ⟨w.heap.size, 0, none⟩ = some (.int .i64 34) := cW 0
  have c1 : W2.cell? ⟨w.heap.size, 1, none⟩ = some (.int .i64 k) := cW 1
  have c2 : W2.cell? ⟨w.heap.size, 2, none⟩ = some (.int .i64 a) := cW 2
  have c3 : W2.cell? ⟨w.heap.size, 3, none⟩ = some (.int .i64 b) := cW 3
  have c4 : W2.cell? ⟨w.heap.size, 4, none⟩ = some (.string T) := cW 4
  have c5 : W2.cell? ⟨w.heap.size, 5, none⟩ = some (.string C) := cW 5
  have c6 : W2.cell? ⟨w.heap.size, 6, none⟩ = some (.string N) := cW 6
  have c7 : W2.cell? ⟨w.heap.size, 7, none⟩ = some (.string Y) := cW 7
  have c8 : W2.cell? ⟨w.heap.size, 8, none⟩ = some (.slice ta n tc) := cW 8
  clear hb2 hB3 hi3 hne3 hw3 hle3 hnm cW
  go_wp2_with (at_builtin; refine appN rfl _ _ _ rfl w.heap.size (W2.alloc (.cells #[.string (mkS nm)] 9)) (.slice (some ⟨W2.heap.size, 0, none⟩) 1 1) (.slice (some ⟨W2.heap.size, 0, none⟩) 1 1) [nm] [C.data.toList] 1 _ rfl rfl rfl (cellsN _ _ [C.data.toList] _ _ rfl (by simp)) (hwk.out.alloc _) (by simp) ?_; intro v' w' hvH)
  all_goals (go_ret; exact ⟨_, rfl, hvH.out.words, hB3H.out.trans hvH.out.below⟩)


set_option maxRecDepth 1000000 in
set_option maxHeartbeats 8000000 in
theorem sw35 (k a b : Int) (T C N Y : ByteArray) (ta : Option Addr) (n tc : Nat) (w : World) :
    Calls Tryz.prog 12 #[insV 35 k a b T C N Y (.slice ta n tc)] w fun e w' => ∃ v, e = .returned v ∧ WordsAt w.heap.size w' v (wordAt opsT 35 :: [Y.data.toList]) ∧ Below w.heap.size w w' := by
  have hnm : Hid (∀ W, Calls Tryz.prog 29 #[.int .i64 35] W fun e w' => e = .returned (.string (mkS (wordAt opsT 35))) ∧ Below W.heap.size W w') := fun W => opName_calls 35 W (by omega) (by omega)
  obtain ⟨nm, hnmE⟩ : ∃ nm, wordAt opsT 35 = nm := ⟨_, rfl⟩
  rw [hnmE] at hnm ⊢
  clear hnmE
  go_enter Tryz.func12, Tryz.ntmps12
  go_wp2_with (go_at_call 29; fail)
  refine (hnm.out _).mono ?_
  rintro e W2 ⟨rfl, hb2⟩
  obtain ⟨hB3, hi3, hne3, hw3, hle3⟩ := firstWord w W2 #[.int .i64 35, .int .i64 k, .int .i64 a, .int .i64 b, .string T, .string C, .string N, .string Y, .slice ta n tc] nm hb2
  have hB3H : Hid (Below w.heap.size w (W2.alloc (.cells #[.string (mkS nm)] 9))) := hB3
  have hwk : Hid (Wrk w.heap.size (W2.alloc (.cells #[.string (mkS nm)] 9)) (.slice (some ⟨W2.heap.size, 0, none⟩) 1 1) [nm] (.slice (some ⟨W2.heap.size, 0, none⟩) 1 1) (W2.alloc (.cells #[.string (mkS nm)] 9))) := Wrk.start hw3 hle3
  have hcl : Hid (∀ (W : World) (ws : List (List UInt8)) (v : Value), Wrk w.heap.size (W2.alloc (.cells #[.string (mkS nm)] 9)) (.slice (some ⟨W2.heap.size, 0, none⟩) 1 1) ws v W → ∀ ix, W.cell? ⟨w.heap.size, ix, none⟩ = #[.int .i64 35, .int .i64 k, .int .i64 a, .int .i64 b, .string T, .string C, .string N, .string Y, .slice ta n tc][ix]?) := fun W ws v h ix => h.ins hi3 (by simp only [Value.ownBlock]; intro e; injection e with e; omega) ix
  have hlt2 : w.heap.size < W2.heap.size := by have := hb2.size; simp at this; omega
  have cW : ∀ ix, W2.cell? ⟨w.heap.size, ix, none⟩ = #[.int .i64 35, .int .i64 k, .int .i64 a, .int .i64 b, .string T, .string C, .string N, .string Y, .slice ta n tc][ix]? := fun ix => by
    have h := hcl.out _ _ _ hwk.out ix
    rw [World.cell?_alloc_past _ _ _ (show w.heap.size < W2.heap.size from hlt2)] at h
    exact h
  have c0 : W2.cell? ⟨w.heap.size, 0, none⟩ = some (.int .i64 35) := cW 0
  have c1 : W2.cell? ⟨w.heap.size, 1, none⟩ = some (.int .i64 k) := cW 1
  have c2 : W2.cell? ⟨w.heap.size, 2, none⟩ = some (.int .i64 a) := cW 2
  have c3 : W2.cell? ⟨w.heap.size, 3, none⟩ = some (.int .i64 b) := cW 3
  have c4 : W2.cell? ⟨w.heap.size, 4, none⟩ = some (.string T) := cW 4
  have c5 : W2.cell? ⟨w.heap.size, 5, none⟩ = some (.string C) := cW 5
  have c6 : W2.cell? ⟨w.heap.size, 6, none⟩ = some (.string N) := cW 6
  have c7 : W2.cell? ⟨w.heap.size, 7, none⟩ = some (.string Y) := cW 7
  have c8 : W2.cell? ⟨w.heap.size, 8, none⟩ = some (.slice ta n tc) := cW 8
  clear hb2 hB3 hi3 hne3 hw3 hle3 hnm cW
  go_wp2_with (at_builtin; refine appN rfl _ _ _ rfl w.heap.size (W2.alloc (.cells #[.string (mkS nm)] 9)) (.slice (some ⟨W2.heap.size, 0, none⟩) 1 1) (.slice (some ⟨W2.heap.size, 0, none⟩) 1 1) [nm] [Y.data.toList] 1 _ rfl rfl rfl (cellsN _ _ [Y.data.toList] _ _ rfl (by simp)) (hwk.out.alloc _) (by simp) ?_; intro v' w' hvH)
  all_goals (go_ret; exact ⟨_, rfl, hvH.out.words, hB3H.out.trans hvH.out.below⟩)


set_option maxRecDepth 1000000 in
set_option maxHeartbeats 8000000 in
theorem sw39 (k a b : Int) (T C N Y : ByteArray) (ta : Option Addr) (n tc : Nat) (w : World) :
    Calls Tryz.prog 12 #[insV 39 k a b T C N Y (.slice ta n tc)] w fun e w' => ∃ v, e = .returned v ∧ WordsAt w.heap.size w' v (wordAt opsT 39 :: [Y.data.toList]) ∧ Below w.heap.size w w' := by
  have hnm : Hid (∀ W, Calls Tryz.prog 29 #[.int .i64 39] W fun e w' => e = .returned (.string (mkS (wordAt opsT 39))) ∧ Below W.heap.size W w') := fun W => opName_calls 39 W (by omega) (by omega)
  obtain ⟨nm, hnmE⟩ : ∃ nm, wordAt opsT 39 = nm := ⟨_, rfl⟩
  rw [hnmE] at hnm ⊢
  clear hnmE
  go_enter Tryz.func12, Tryz.ntmps12
  go_wp2_with (go_at_call 29; fail)
  refine (hnm.out _).mono ?_
  rintro e W2 ⟨rfl, hb2⟩
  obtain ⟨hB3, hi3, hne3, hw3, hle3⟩ := firstWord w W2 #[.int .i64 39, .int .i64 k, .int .i64 a, .int .i64 b, .string T, .string C, .string N, .string Y, .slice ta n tc] nm hb2
  have hB3H : Hid (Below w.heap.size w (W2.alloc (.cells #[.string (mkS nm)] 9))) := hB3
  have hwk : Hid (Wrk w.heap.size (W2.alloc (.cells #[.string (mkS nm)] 9)) (.slice (some ⟨W2.heap.size, 0, none⟩) 1 1) [nm] (.slice (some ⟨W2.heap.size, 0, none⟩) 1 1) (W2.alloc (.cells #[.string (mkS nm)] 9))) := Wrk.start hw3 hle3
  have hcl : Hid (∀ (W : World) (ws : List (List UInt8)) (v : Value), Wrk w.heap.size (W2.alloc (.cells #[.string (mkS nm)] 9)) (.slice (some ⟨W2.heap.size, 0, none⟩) 1 1) ws v W → ∀ ix, W.cell? ⟨w.heap.size, ix, none⟩ = #[.int .i64 39, .int .i64 k, .int .i64 a, .int .i64 b, .string T, .string C, .string N, .string Y, .slice ta n tc][ix]?) := fun W ws v h ix => h.ins hi3 (by simp only [Value.ownBlock]; intro e; injection e with e; omega) ix
  have hlt2 : w.heap.size < W2.heap.size := by have := hb2.size; simp at this; omega
  have cW : ∀ ix, W2.cell? ⟨w.heap.size, ix, none⟩ = #[.int .i64 39, .int .i64 k, .int .i64 a, .int .i64 b, .string T, .string C, .string N, .string Y, .slice ta n tc][ix]? := fun ix => by
    have h := hcl.out _ _ _ hwk.out ix
    rw [World.cell?_alloc_past _ _ _ (show w.heap.size < W2.heap.size from hlt2)] at h
    exact h
  have c0 : W2.cell? ⟨w.heap.size, 0, none⟩ = some (.int .i64 39) := cW 0
  have c1 : W2.cell? ⟨w.heap.size, 1, none⟩ = some (.int .i64 k) := cW 1
  have c2 : W2.cell? ⟨w.heap.size, 2, none⟩ = some (.int .i64 a) := cW 2
  have c3 : W2.cell? ⟨w.heap.size, 3, none⟩ = some (.int .i64 b) := cW 3
  have c4 : W2.cell? ⟨w.heap.size, 4, none⟩ = some (.string T) := cW 4
  have c5 : W2.cell? ⟨w.heap.size, 5, none⟩ = some (.string C) := cW 5
  have c6 : W2.cell? ⟨w.heap.size, 6, none⟩ = some (.string N) := cW 6
  have c7 : W2.cell? ⟨w.heap.size, 7, none⟩ = some (.string Y) := cW 7
  have c8 : W2.cell? ⟨w.heap.size, 8, none⟩ = some (.slice ta n tc) := cW 8
  clear hb2 hB3 hi3 hne3 hw3 hle3 hnm cW
  go_wp2_with (at_builtin; refine appN rfl _ _ _ rfl w.heap.size (W2.alloc (.cells #[.string (mkS nm)] 9)) (.slice (some ⟨W2.heap.size, 0, none⟩) 1 1) (.slice (some ⟨W2.heap.size, 0, none⟩) 1 1) [nm] [Y.data.toList] 1 _ rfl rfl rfl (cellsN _ _ [Y.data.toList] _ _ rfl (by simp)) (hwk.out.alloc _) (by simp) ?_; intro v' w' hvH)
  all_goals (go_ret; exact ⟨_, rfl, hvH.out.words, hB3H.out.trans hvH.out.below⟩)


set_option maxRecDepth 1000000 in
set_option maxHeartbeats 8000000 in
theorem sw40 (k a b : Int) (T C N Y : ByteArray) (ta : Option Addr) (n tc : Nat) (w : World) :
    Calls Tryz.prog 12 #[insV 40 k a b T C N Y (.slice ta n tc)] w fun e w' => ∃ v, e = .returned v ∧ WordsAt w.heap.size w' v (wordAt opsT 40 :: [Y.data.toList]) ∧ Below w.heap.size w w' := by
  have hnm : Hid (∀ W, Calls Tryz.prog 29 #[.int .i64 40] W fun e w' => e = .returned (.string (mkS (wordAt opsT 40))) ∧ Below W.heap.size W w') := fun W => opName_calls 40 W (by omega) (by omega)
  obtain ⟨nm, hnmE⟩ : ∃ nm, wordAt opsT 40 = nm := ⟨_, rfl⟩
  rw [hnmE] at hnm ⊢
  clear hnmE
  go_enter Tryz.func12, Tryz.ntmps12
  go_wp2_with (go_at_call 29; fail)
  refine (hnm.out _).mono ?_
  rintro e W2 ⟨rfl, hb2⟩
  obtain ⟨hB3, hi3, hne3, hw3, hle3⟩ := firstWord w W2 #[.int .i64 40, .int .i64 k, .int .i64 a, .int .i64 b, .string T, .string C, .string N, .string Y, .slice ta n tc] nm hb2
  have hB3H : Hid (Below w.heap.size w (W2.alloc (.cells #[.string (mkS nm)] 9))) := hB3
  have hwk : Hid (Wrk w.heap.size (W2.alloc (.cells #[.string (mkS nm)] 9)) (.slice (some ⟨W2.heap.size, 0, none⟩) 1 1) [nm] (.slice (some ⟨W2.heap.size, 0, none⟩) 1 1) (W2.alloc (.cells #[.string (mkS nm)] 9))) := Wrk.start hw3 hle3
  have hcl : Hid (∀ (W : World) (ws : List (List UInt8)) (v : Value), Wrk w.heap.size (W2.alloc (.cells #[.string (mkS nm)] 9)) (.slice (some ⟨W2.heap.size, 0, none⟩) 1 1) ws v W → ∀ ix, W.cell? ⟨w.heap.size, ix, none⟩ = #[.int .i64 40, .int .i64 k, .int .i64 a, .int .i64 b, .string T, .string C, .string N, .string Y, .slice ta n tc][ix]?) := fun W ws v h ix => h.ins hi3 (by simp only [Value.ownBlock]; intro e; injection e with e; omega) ix
  have hlt2 : w.heap.size < W2.heap.size := by have := hb2.size; simp at this; omega
  have cW : ∀ ix, W2.cell? ⟨w.heap.size, ix, none⟩ = #[.int .i64 40, .int .i64 k, .int .i64 a, .int .i64 b, .string T, .string C, .string N, .string Y, .slice ta n tc][ix]? := fun ix => by
    have h := hcl.out _ _ _ hwk.out ix
    rw [World.cell?_alloc_past _ _ _ (show w.heap.size < W2.heap.size from hlt2)] at h
    exact h
  have c0 : W2.cell? ⟨w.heap.size, 0, none⟩ = some (.int .i64 40) := cW 0
  have c1 : W2.cell? ⟨w.heap.size, 1, none⟩ = some (.int .i64 k) := cW 1
  have c2 : W2.cell? ⟨w.heap.size, 2, none⟩ = some (.int .i64 a) := cW 2
  have c3 : W2.cell? ⟨w.heap.size, 3, none⟩ = some (.int .i64 b) := cW 3
  have c4 : W2.cell? ⟨w.heap.size, 4, none⟩ = some (.string T) := cW 4
  have c5 : W2.cell? ⟨w.heap.size, 5, none⟩ = some (.string C) := cW 5
  have c6 : W2.cell? ⟨w.heap.size, 6, none⟩ = some (.string N) := cW 6
  have c7 : W2.cell? ⟨w.heap.size, 7, none⟩ = some (.string Y) := cW 7
  have c8 : W2.cell? ⟨w.heap.size, 8, none⟩ = some (.slice ta n tc) := cW 8
  clear hb2 hB3 hi3 hne3 hw3 hle3 hnm cW
  go_wp2_with (at_builtin; refine appN rfl _ _ _ rfl w.heap.size (W2.alloc (.cells #[.string (mkS nm)] 9)) (.slice (some ⟨W2.heap.size, 0, none⟩) 1 1) (.slice (some ⟨W2.heap.size, 0, none⟩) 1 1) [nm] [Y.data.toList] 1 _ rfl rfl rfl (cellsN _ _ [Y.data.toList] _ _ rfl (by simp)) (hwk.out.alloc _) (by simp) ?_; intro v' w' hvH)
  all_goals (go_ret; exact ⟨_, rfl, hvH.out.words, hB3H.out.trans hvH.out.below⟩)

end Go.Proofs.YtcencddbdidjjaaGreatDoor
