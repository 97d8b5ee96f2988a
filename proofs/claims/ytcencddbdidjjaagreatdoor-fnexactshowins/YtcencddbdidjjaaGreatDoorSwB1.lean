/- spec.l3Words. -/
import Derived.Test.YtcencddbdidjjaaGreatDoorSpW
namespace Go.Proofs.YtcencddbdidjjaaGreatDoor
set_option linter.unusedVariables false
open Go.ChangeShapes Go.WideShapes Go.ChangeAt Go.RowKit

set_option maxRecDepth 1000000 in
set_option maxHeartbeats 8000000 in
theorem sw4 (a b : Int) (j : Nat) (T C N Y : ByteArray) (ta : Option Addr) (n tc : Nat) (w : World) (hj : j < 8) (h64 : B64 a) :
    Calls Tryz.prog 12 #[insV 4 (j : Int) a b T C N Y (.slice ta n tc)] w fun e w' => ∃ v, e = .returned v ∧ WordsAt w.heap.size w' v (wordAt opsT 4 :: [wordAt letT j, Lib.itoa a]) ∧ Below w.heap.size w w' := by
  have hnm : Hid (∀ W, Calls Tryz.prog 29 #[.int .i64 4] W fun e w' => e = .returned (.string (mkS (wordAt opsT 4))) ∧ Below W.heap.size W w') := fun W => opName_calls 4 W (by omega) (by omega)
  obtain ⟨nm, hnmE⟩ : ∃ nm, wordAt opsT 4 = nm := ⟨_, rfl⟩
  rw [hnmE] at hnm ⊢
  clear hnmE
  go_enter Tryz.func12, Tryz.ntmps12
  go_wp2_with (go_at_call 29; fail)
  refine (hnm.out _).mono ?_
  rintro e W2 ⟨rfl, hb2⟩
  obtain ⟨hB3, hi3, hne3, hw3, hle3⟩ := firstWord w W2 #[.int .i64 4, .int .i64 (j : Int), .int .i64 a, .int .i64 b, .string T, .string C, .string N, .string Y, .slice ta n tc] nm hb2
  have hB3H : Hid (Below w.heap.size w (W2.alloc (.cells #[.string (mkS nm)] 9))) := hB3
  have hwk : Hid (Wrk w.heap.size (W2.alloc (.cells #[.string (mkS nm)] 9)) (.slice (some ⟨W2.heap.size, 0, none⟩) 1 1) [nm] (.slice (some ⟨W2.heap.size, 0, none⟩) 1 1) (W2.alloc (.cells #[.string (mkS nm)] 9))) := Wrk.start hw3 hle3
  have hcl : Hid (∀ (W : World) (ws : List (List UInt8)) (v : Value), Wrk w.heap.size (W2.alloc (.cells #[.string (mkS nm)] 9)) (.slice (some ⟨W2.heap.size, 0, none⟩) 1 1) ws v W → ∀ ix, W.cell? ⟨w.heap.size, ix, none⟩ = #[.int .i64 4, .int .i64 (j : Int), .int .i64 a, .int .i64 b, .string T, .string C, .string N, .string Y, .slice ta n tc][ix]?) := fun W ws v h ix => h.ins hi3 (by simp only [Value.ownBlock]; intro e; injection e with e; omega) ix
  have hlt2 : w.heap.size < W2.heap.size := by have := hb2.size; simp at this; omega
  have cW : ∀ ix, W2.cell? ⟨w.heap.size, ix, none⟩ = #[.int .i64 4, .int .i64 (j : Int), .int .i64 a, .int .i64 b, .string T, .string C, .string N, .string Y, .slice ta n tc][ix]? := fun ix => by
    have h := hcl.out _ _ _ hwk.out ix
    rw [World.cell?_alloc_past _ _ _ (show w.heap.size < W2.heap.size from hlt2)] at h
    exact h
  have c0 : W2.cell? ⟨w.heap.size, 0, none⟩ = some (.int .i64 4) := cW 0
  have c1 : W2.cell? ⟨w.heap.size, 1, none⟩ = some (.int .i64 (j : Int)) := cW 1
  have c2 : W2.cell? ⟨w.heap.size, 2, none⟩ = some (.int .i64 a) := cW 2
  have c3 : W2.cell? ⟨w.heap.size, 3, none⟩ = some (.int .i64 b) := cW 3
  have c4 : W2.cell? ⟨w.heap.size, 4, none⟩ = some (.string T) := cW 4
  have c5 : W2.cell? ⟨w.heap.size, 5, none⟩ = some (.string C) := cW 5
  have c6 : W2.cell? ⟨w.heap.size, 6, none⟩ = some (.string N) := cW 6
  have c7 : W2.cell? ⟨w.heap.size, 7, none⟩ = some (.string Y) := cW 7
  have c8 : W2.cell? ⟨w.heap.size, 8, none⟩ = some (.slice ta n tc) := cW 8
  clear hb2 hB3 hi3 hne3 hw3 hle3 hnm cW
  go_wp2_with fail
  have hmk : Hid (∀ W, Wrk w.heap.size (W2.alloc (.cells #[.string (mkS nm)] 9)) (.slice (some ⟨W2.heap.size, 0, none⟩) 1 1) [nm] (.slice (some ⟨W2.heap.size, 0, none⟩) 1 1) W → (Hid (Wrk w.heap.size (W2.alloc (.cells #[.string (mkS nm)] 9)) (.slice (some ⟨W2.heap.size, 0, none⟩) 1 1) [nm] (.slice (some ⟨W2.heap.size, 0, none⟩) 1 1) W) ∧ W.cell? ⟨w.heap.size, 0, none⟩ = some (.int .i64 4) ∧ W.cell? ⟨w.heap.size, 1, none⟩ = some (.int .i64 (j : Int)) ∧ W.cell? ⟨w.heap.size, 2, none⟩ = some (.int .i64 a) ∧ W.cell? ⟨w.heap.size, 3, none⟩ = some (.int .i64 b) ∧ W.cell? ⟨w.heap.size, 4, none⟩ = some (.string T) ∧ W.cell? ⟨w.heap.size, 5, none⟩ = some (.string C) ∧ W.cell? ⟨w.heap.size, 6, none⟩ = some (.string N) ∧ W.cell? ⟨w.heap.size, 7, none⟩ = some (.string Y) ∧ W.cell? ⟨w.heap.size, 8, none⟩ = some (.slice ta n tc))) := fun W h => ⟨h, hcl.out _ _ _ h 0, hcl.out _ _ _ h 1, hcl.out _ _ _ h 2, hcl.out _ _ _ h 3, hcl.out _ _ _ h 4, hcl.out _ _ _ h 5, hcl.out _ _ _ h 6, hcl.out _ _ _ h 7, hcl.out _ _ _ h 8⟩
  have hS0 := hmk.out _ hwk.out
  clear hwk hcl c0 c1 c2 c3 c4 c5 c6 c7 c8
  go_region_held3 (fun W => Hid (Wrk w.heap.size (W2.alloc (.cells #[.string (mkS nm)] 9)) (.slice (some ⟨W2.heap.size, 0, none⟩) 1 1) [nm] (.slice (some ⟨W2.heap.size, 0, none⟩) 1 1) W) ∧ W.cell? ⟨w.heap.size, 0, none⟩ = some (.int .i64 4) ∧ W.cell? ⟨w.heap.size, 1, none⟩ = some (.int .i64 (j : Int)) ∧ W.cell? ⟨w.heap.size, 2, none⟩ = some (.int .i64 a) ∧ W.cell? ⟨w.heap.size, 3, none⟩ = some (.int .i64 b) ∧ W.cell? ⟨w.heap.size, 4, none⟩ = some (.string T) ∧ W.cell? ⟨w.heap.size, 5, none⟩ = some (.string C) ∧ W.cell? ⟨w.heap.size, 6, none⟩ = some (.string N) ∧ W.cell? ⟨w.heap.size, 7, none⟩ = some (.string Y) ∧ W.cell? ⟨w.heap.size, 8, none⟩ = some (.slice ta n tc)) (first | assumption | exact hmk.out _ hkp.out | exact hmk.out _ (Wrk.call (Hid.out (And.left (by assumption))) hbq) | exact hmk.out _ (Wrk.alloc (Hid.out (And.left (by assumption))) _) | exact hmk.out _ (Wrk.drew (Hid.out (And.left (by assumption))))) (first
      | (refine wp_appN _ _ _ rfl w.heap.size (W2.alloc (.cells #[.string (mkS nm)] 9)) (.slice (some ⟨W2.heap.size, 0, none⟩) 1 1) (.slice (some ⟨W2.heap.size, 0, none⟩) 1 1) [nm] [wordAt letT j, Lib.itoa a] 2 _ rfl rfl rfl (cellsN _ _ [wordAt letT j, Lib.itoa a] _ _ rfl (by simp)) (Hid.out (And.left (by assumption))) (by simp) ?_; intro v' w' hvH hkp)
      | (go_at_call 30; refine (letter_calls j _ (by omega)).mono ?_; rintro e wq ⟨rfl, hbq⟩)
      | (go_at_call 32; refine (int_calls a _ h64).mono ?_; rintro e wq ⟨rfl, hbq⟩))
  all_goals (go_wp2; go_ret; exact ⟨_, rfl, hvH.out.words, hB3H.out.trans hvH.out.below⟩)


set_option maxRecDepth 1000000 in
set_option maxHeartbeats 8000000 in
theorem sw5 (a b : Int) (j : Nat) (T C N Y : ByteArray) (ta : Option Addr) (n tc : Nat) (w : World) (hj : j < 8) (h64 : B64 a) :
    Calls Tryz.prog 12 #[insV 5 (j : Int) a b T C N Y (.slice ta n tc)] w fun e w' => ∃ v, e = .returned v ∧ WordsAt w.heap.size w' v (wordAt opsT 5 :: [wordAt letT j, Lib.itoa a]) ∧ Below w.heap.size w w' := by
  have hnm : Hid (∀ W, Calls Tryz.prog 29 #[.int .i64 5] W fun e w' => e = .returned (.string (mkS (wordAt opsT 5))) ∧ Below W.heap.size W w') := fun W => opName_calls 5 W (by omega) (by omega)
  obtain ⟨nm, hnmE⟩ : ∃ nm, wordAt opsT 5 = nm := ⟨_, rfl⟩
  rw [hnmE] at hnm ⊢
  clear hnmE
  go_enter Tryz.func12, Tryz.ntmps12
  go_wp2_with (go_at_call 29; fail)
  refine (hnm.out _).mono ?_
  rintro e W2 ⟨rfl, hb2⟩
  obtain ⟨hB3, hi3, hne3, hw3, hle3⟩ := firstWord w W2 #[.int .i64 5, .int .i64 (j : Int), .int .i64 a, .int .i64 b, .string T, .string C, .string N, .string Y, .slice ta n tc] nm hb2
  have hB3H : Hid (Below w.heap.size w (W2.alloc (.cells #[.string (mkS nm)] 9))) := hB3
  have hwk : Hid (Wrk w.heap.size (W2.alloc (.cells #[.string (mkS nm)] 9)) (.slice (some ⟨W2.heap.size, 0, none⟩) 1 1) [nm] (.slice (some ⟨W2.heap.size, 0, none⟩) 1 1) (W2.alloc (.cells #[.string (mkS nm)] 9))) := Wrk.start hw3 hle3
  have hcl : Hid (∀ (W : World) (ws : List (List UInt8)) (v : Value), Wrk w.heap.size (W2.alloc (.cells #[.string (mkS nm)] 9)) (.slice (some ⟨W2.heap.size, 0, none⟩) 1 1) ws v W → ∀ ix, W.cell? ⟨w.heap.size, ix, none⟩ = #[.int .i64 5, .int .i64 (j : Int), .int .i64 a, .int .i64 b, .string T, .string C, .string N, .string Y, .slice ta n tc][ix]?) := fun W ws v h ix => h.ins hi3 (by simp only [Value.ownBlock]; intro e; injection e with e; omega) ix
  have hlt2 : w.heap.size < W2.heap.size := by have := hb2.size; simp at this; omega
  have cW : ∀ ix, W2.cell? ⟨w.heap.size, ix, none⟩ = #[.int .i64 5, .int .i64 (j : Int), .int .i64 a, .int .i64 b, .string T, .string C, .string N, .string Y, .slice ta n tc][ix]? := fun ix => by
    have h := hcl.out _ _ _ hwk.out ix
    rw [World.cell?_alloc_past _ _ _ (show w.heap.size < W2.heap.size from hlt2)] at h
    exact h
  have c0 : W2.cell? ⟨w.heap.size, 0, none⟩ = some (.int .i64 5) := cW 0
  have c1 : W2.cell? ⟨w.heap.size, 1, none⟩ = some (.int .i64 (j : Int)) := cW 1
  have c2 : W2.cell? ⟨w.heap.size, 2, none⟩ = some (.int .i64 a) := cW 2
  have c3 : W2.cell? ⟨w.heap.size, 3, none⟩ = some (.int .i64 b) := cW 3
  have c4 : W2.cell? ⟨w.heap.size, 4, none⟩ = some (.string T) := cW 4
  have c5 : W2.cell? ⟨w.heap.size, 5, none⟩ = some (.string C) := cW 5
  have c6 : W2.cell? ⟨w.heap.size, 6, none⟩ = some (.string N) := cW 6
  have c7 : W2.cell? ⟨w.heap.size, 7, none⟩ = some (.string Y) := cW 7
  have c8 : W2.cell? ⟨w.heap.size, 8, none⟩ = some (.slice ta n tc) := cW 8
  clear hb2 hB3 hi3 hne3 hw3 hle3 hnm cW
  go_wp2_with fail
  have hmk : Hid (∀ W, Wrk w.heap.size (W2.alloc (.cells #[.string (mkS nm)] 9)) (.slice (some ⟨W2.heap.size, 0, none⟩) 1 1) [nm] (.slice (some ⟨W2.heap.size, 0, none⟩) 1 1) W → (Hid (Wrk w.heap.size (W2.alloc (.cells #[.string (mkS nm)] 9)) (.slice (some ⟨W2.heap.size, 0, none⟩) 1 1) [nm] (.slice (some ⟨W2.heap.size, 0, none⟩) 1 1) W) ∧ W.cell? ⟨w.heap.size, 0, none⟩ = some (.int .i64 5) ∧ W.cell? ⟨w.heap.size, 1, none⟩ = some (.int .i64 (j : Int)) ∧ W.cell? ⟨w.heap.size, 2, none⟩ = some (.int .i64 a) ∧ W.cell? ⟨w.heap.size, 3, none⟩ = some (.int .i64 b) ∧ W.cell? ⟨w.heap.size, 4, none⟩ = some (.string T) ∧ W.cell? ⟨w.heap.size, 5, none⟩ = some (.string C) ∧ W.cell? ⟨w.heap.size, 6, none⟩ = some (.string N) ∧ W.cell? ⟨w.heap.size, 7, none⟩ = some (.string Y) ∧ W.cell? ⟨w.heap.size, 8, none⟩ = some (.slice ta n tc))) := fun W h => ⟨h, hcl.out _ _ _ h 0, hcl.out _ _ _ h 1, hcl.out _ _ _ h 2, hcl.out _ _ _ h 3, hcl.out _ _ _ h 4, hcl.out _ _ _ h 5, hcl.out _ _ _ h 6, hcl.out _ _ _ h 7, hcl.out _ _ _ h 8⟩
  have hS0 := hmk.out _ hwk.out
  clear hwk hcl c0 c1 c2 c3 c4 c5 c6 c7 c8
  go_region_held3 (fun W => Hid (Wrk w.heap.size (W2.alloc (.cells #[.string (mkS nm)] 9)) (.slice (some ⟨W2.heap.size, 0, none⟩) 1 1) [nm] (.slice (some ⟨W2.heap.size, 0, none⟩) 1 1) W) ∧ W.cell? ⟨w.heap.size, 0, none⟩ = some (.int .i64 5) ∧ W.cell? ⟨w.heap.size, 1, none⟩ = some (.int .i64 (j : Int)) ∧ W.cell? ⟨w.heap.size, 2, none⟩ = some (.int .i64 a) ∧ W.cell? ⟨w.heap.size, 3, none⟩ = some (.int .i64 b) ∧ W.cell? ⟨w.heap.size, 4, none⟩ = some (.string T) ∧ W.cell? ⟨w.heap.size, 5, none⟩ = some (.string C) ∧ W.cell? ⟨w.heap.size, 6, none⟩ = some (.string N) ∧ W.cell? ⟨w.heap.size, 7, none⟩ = some (.string Y) ∧ W.cell? ⟨w.heap.size, 8, none⟩ = some (.slice ta n tc)) (first | assumption | exact hmk.out _ hkp.out | exact hmk.out _ (Wrk.call (Hid.out (And.left (by assumption))) hbq) | exact hmk.out _ (Wrk.alloc (Hid.out (And.left (by assumption))) _) | exact hmk.out _ (Wrk.drew (Hid.out (And.left (by assumption))))) (first
      | (refine wp_appN _ _ _ rfl w.heap.size (W2.alloc (.cells #[.string (mkS nm)] 9)) (.slice (some ⟨W2.heap.size, 0, none⟩) 1 1) (.slice (some ⟨W2.heap.size, 0, none⟩) 1 1) [nm] [wordAt letT j, Lib.itoa a] 2 _ rfl rfl rfl (cellsN _ _ [wordAt letT j, Lib.itoa a] _ _ rfl (by simp)) (Hid.out (And.left (by assumption))) (by simp) ?_; intro v' w' hvH hkp)
      | (go_at_call 30; refine (letter_calls j _ (by omega)).mono ?_; rintro e wq ⟨rfl, hbq⟩)
      | (go_at_call 32; refine (int_calls a _ h64).mono ?_; rintro e wq ⟨rfl, hbq⟩))
  all_goals (go_wp2; go_ret; exact ⟨_, rfl, hvH.out.words, hB3H.out.trans hvH.out.below⟩)

end Go.Proofs.YtcencddbdidjjaaGreatDoor

/- spec.l3Words. -/
namespace Go.Proofs.YtcencddbdidjjaaGreatDoor
set_option linter.unusedVariables false
open Go.ChangeShapes Go.WideShapes Go.ChangeAt Go.RowKit

set_option maxRecDepth 1000000 in
set_option maxHeartbeats 8000000 in
theorem sw25 (k a b : Int) (T C N Y : ByteArray) (ta : Option Addr) (n tc : Nat) (w : World) (h64 : B64 a) :
    Calls Tryz.prog 12 #[insV 25 k a b T C N Y (.slice ta n tc)] w fun e w' => ∃ v, e = .returned v ∧ WordsAt w.heap.size w' v (wordAt opsT 25 :: [Lib.itoa a]) ∧ Below w.heap.size w w' := by
  have hnm : Hid (∀ W, Calls Tryz.prog 29 #[.int .i64 25] W fun e w' => e = .returned (.string (mkS (wordAt opsT 25))) ∧ Below W.heap.size W w') := fun W => opName_calls 25 W (by omega) (by omega)
  obtain ⟨nm, hnmE⟩ : ∃ nm, wordAt opsT 25 = nm := ⟨_, rfl⟩
  rw [hnmE] at hnm ⊢
  clear hnmE
  go_enter Tryz.func12, Tryz.ntmps12
  go_wp2_with (go_at_call 29; fail)
  refine (hnm.out _).mono ?_
  rintro e W2 ⟨rfl, hb2⟩
  obtain ⟨hB3, hi3, hne3, hw3, hle3⟩ := firstWord w W2 #[.int .i64 25, .int .i64 k, .int .i64 a, .int .i64 b, .string T, .string C, .string N, .string Y, .slice ta n tc] nm hb2
  have hB3H : Hid (Below w.heap.size w (W2.alloc (.cells #[.string (mkS nm)] 9))) := hB3
  have hwk : Hid (Wrk w.heap.size (W2.alloc (.cells #[.string (mkS nm)] 9)) (.slice (some ⟨W2.heap.size, 0, none⟩) 1 1) [nm] (.slice (some ⟨W2.heap.size, 0, none⟩) 1 1) (W2.alloc (.cells #[.string (mkS nm)] 9))) := Wrk.start hw3 hle3
  have hcl : Hid (∀ (W : World) (ws : List (List UInt8)) (v : Value), Wrk w.heap.size (W2.alloc (.cells #[.string (mkS nm)] 9)) (.slice (some ⟨W2.heap.size, 0, none⟩) 1 1) ws v W → ∀ ix, W.cell? ⟨w.heap.size, ix, none⟩ = #[.int .i64 25, .int .i64 k, .int .i64 a, .int .i64 b, .string T, .string C, .string N, .string Y, .slice ta n tc][ix]?) := fun W ws v h ix => h.ins hi3 (by simp only [Value.ownBlock]; intro e; injection e with e; omega) ix
  have hlt2 : w.heap.size < W2.heap.size := by have := hb2.size; simp at this; omega
  have cW : ∀ ix, W2.cell? ⟨w.heap.size, ix, none⟩ = #[.int .i64 25, .int .i64 k, .int .i64 a, .int .i64 b, .string T, .string C, .string N, .string Y, .slice ta n tc][ix]? := fun ix => by
    have h := hcl.out _ _ _ hwk.out ix
    rw [World.cell?_alloc_past _ _ _ (show w.heap.size < W2.heap.size from hlt2)] at h
    exact h
  have c0 : W2.cell? ⟨w.heap.size, 0, none⟩ = some (.int .i64 25) := cW 0
  have c1 : W2.cell? ⟨w.heap.size, 1, none⟩ = some (.int .i64 k) := cW 1
  have c2 : W2.cell? ⟨w.heap.size, 2, none⟩ = some (.int .i64 a) := cW 2
  have c3 : W2.cell? ⟨w.heap.size, 3, none⟩ = some (.int .i64 b) := cW 3
  have c4 : W2.cell? ⟨w.heap.size, 4, none⟩ = some (.string T) := cW 4
  have c5 : W2.cell? ⟨w.heap.size, 5, none⟩ = some (.string C) := cW 5
  have c6 : W2.cell? ⟨w.heap.size, 6, none⟩ = some (.string N) := cW 6
  have c7 : W2.cell? ⟨w.heap.size, 7, none⟩ = some (.string Y) := cW 7
  have c8 : W2.cell? ⟨w.heap.size, 8, none⟩ = some (.slice ta n tc) := cW 8
  clear hb2 hB3 hi3 hne3 hw3 hle3 hnm cW
  go_wp2_with (first
      | (go_at_call 32; refine (int_calls a _ h64).mono ?_; rintro e Wn ⟨rfl, hbn⟩; have hwk2 : Hid (Wrk w.heap.size (W2.alloc (.cells #[.string (mkS nm)] 9)) (.slice (some ⟨W2.heap.size, 0, none⟩) 1 1) [nm] (.slice (some ⟨W2.heap.size, 0, none⟩) 1 1) Wn) := hwk.out.call hbn; clear hbn)
      | (at_builtin; refine appN rfl _ _ _ rfl w.heap.size (W2.alloc (.cells #[.string (mkS nm)] 9)) (.slice (some ⟨W2.heap.size, 0, none⟩) 1 1) (.slice (some ⟨W2.heap.size, 0, none⟩) 1 1) [nm] [Lib.itoa a] 1 _ rfl rfl rfl (cellsN _ _ [Lib.itoa a] _ _ rfl (by simp)) (hwk2.out.alloc _) (by simp) ?_; intro v' w' hvH))
  all_goals (go_ret; exact ⟨_, rfl, hvH.out.words, hB3H.out.trans hvH.out.below⟩)


set_option maxRecDepth 1000000 in
set_option maxHeartbeats 8000000 in
theorem sw2 (k a b : Int) (T C N Y : ByteArray) (ta : Option Addr) (n tc : Nat) (w : World) (hT : T.size ≤ 1048576) :
    Calls Tryz.prog 12 #[insV 2 k a b T C N Y (.slice ta n tc)] w fun e w' => ∃ v, e = .returned v ∧ WordsAt w.heap.size w' v (wordAt opsT 2 :: [quoL T.data.toList]) ∧ Below w.heap.size w w' := by
  have hnm : Hid (∀ W, Calls Tryz.prog 29 #[.int .i64 2] W fun e w' => e = .returned (.string (mkS (wordAt opsT 2))) ∧ Below W.heap.size W w') := fun W => opName_calls 2 W (by omega) (by omega)
  obtain ⟨nm, hnmE⟩ : ∃ nm, wordAt opsT 2 = nm := ⟨_, rfl⟩
  rw [hnmE] at hnm ⊢
  clear hnmE
  go_enter Tryz.func12, Tryz.ntmps12
  go_wp2_with (go_at_call 29; fail)
  refine (hnm.out _).mono ?_
  rintro e W2 ⟨rfl, hb2⟩
  obtain ⟨hB3, hi3, hne3, hw3, hle3⟩ := firstWord w W2 #[.int .i64 2, .int .i64 k, .int .i64 a, .int .i64 b, .string T, .string C, .string N, .string Y, .slice ta n tc] nm hb2
  have hB3H : Hid (Below w.heap.size w (W2.alloc (.cells #[.string (mkS nm)] 9))) := hB3
  have hwk : Hid (Wrk w.heap.size (W2.alloc (.cells #[.string (mkS nm)] 9)) (.slice (some ⟨W2.heap.size, 0, none⟩) 1 1) [nm] (.slice (some ⟨W2.heap.size, 0, none⟩) 1 1) (W2.alloc (.cells #[.string (mkS nm)] 9))) := Wrk.start hw3 hle3
  have hcl : Hid (∀ (W : World) (ws : List (List UInt8)) (v : Value), Wrk w.heap.size (W2.alloc (.cells #[.string (mkS nm)] 9)) (.slice (some ⟨W2.heap.size, 0, none⟩) 1 1) ws v W → ∀ ix, W.cell? ⟨w.heap.size, ix, none⟩ = #[.int .i64 2, .int .i64 k, .int .i64 a, .int .i64 b, .string T, .string C, .string N, .string Y, .slice ta n tc][ix]?) := fun W ws v h ix => h.ins hi3 (by simp only [Value.ownBlock]; intro e; injection e with e; omega) ix
  have hlt2 : w.heap.size < W2.heap.size := by have := hb2.size; simp at this; omega
  have cW : ∀ ix, W2.cell? ⟨w.heap.size, ix, none⟩ = #[.int .i64 2, .int .i64 k, .int .i64 a, .int .i64 b, .string T, .string C, .string N, .string Y, .slice ta n tc][ix]? := fun ix => by
    have h := hcl.out _ _ _ hwk.out ix
    rw [World.cell?_alloc_past _ _ _ (show w.heap.size < W2.heap.size from hlt2)] at h
    exact h
  have c0 : W2.cell? ⟨w.heap.size, 0, none⟩ = some (.int .i64 2) := cW 0
  have c1 : W2.cell? ⟨w.heap.size, 1, none⟩ = some (.int .i64 k) := cW 1
  have c2 : W2.cell? ⟨w.heap.size, 2, none⟩ = some (.int .i64 a) := cW 2
  have c3 : W2.cell? ⟨w.heap.size, 3, none⟩ = some (.int .i64 b) := cW 3
  have c4 : W2.cell? ⟨w.heap.size, 4, none⟩ = some (.string T) := cW 4
  have c5 : W2.cell? ⟨w.heap.size, 5, none⟩ = some (.string C) := cW 5
  have c6 : W2.cell? ⟨w.heap.size, 6, none⟩ = some (.string N) := cW 6
  have c7 : W2.cell? ⟨w.heap.size, 7, none⟩ = some (.string Y) := cW 7
  have c8 : W2.cell? ⟨w.heap.size, 8, none⟩ = some (.slice ta n tc) := cW 8
  clear hb2 hB3 hi3 hne3 hw3 hle3 hnm cW
  go_wp2_with (first
      | (go_at_call 33; refine (specQuote_calls T _ hT).mono ?_; rintro e Wn ⟨rfl, hbn⟩; have hwk2 : Hid (Wrk w.heap.size (W2.alloc (.cells #[.string (mkS nm)] 9)) (.slice (some ⟨W2.heap.size, 0, none⟩) 1 1) [nm] (.slice (some ⟨W2.heap.size, 0, none⟩) 1 1) Wn) := hwk.out.call hbn; clear hbn)
      | (at_builtin; refine appN rfl _ _ _ rfl w.heap.size (W2.alloc (.cells #[.string (mkS nm)] 9)) (.slice (some ⟨W2.heap.size, 0, none⟩) 1 1) (.slice (some ⟨W2.heap.size, 0, none⟩) 1 1) [nm] [quoL T.data.toList] 1 _ rfl rfl rfl (cellsN _ _ [quoL T.data.toList] _ _ rfl (by simp)) (hwk2.out.alloc _) (by simp) ?_; intro v' w' hvH))
  all_goals (go_ret; exact ⟨_, rfl, hvH.out.words, hB3H.out.trans hvH.out.below⟩)

end Go.Proofs.YtcencddbdidjjaaGreatDoor

/- spec.l3Words. -/
namespace Go.Proofs.YtcencddbdidjjaaGreatDoor
set_option linter.unusedVariables false
open Go.ChangeShapes Go.WideShapes Go.ChangeAt Go.RowKit

set_option maxRecDepth 1000000 in
set_option maxHeartbeats 8000000 in
theorem sw24 (b : Int) (j i : Nat) (T C N Y : ByteArray) (ta : Option Addr) (n tc : Nat) (w : World) (hj : j < 8) (hi : i < 8) :
    Calls Tryz.prog 12 #[insV 24 (j : Int) (i : Int) b T C N Y (.slice ta n tc)] w fun e w' => ∃ v, e = .returned v ∧ WordsAt w.heap.size w' v (wordAt opsT 24 :: [wordAt letT j, wordAt letT i]) ∧ Below w.heap.size w w' := by
  have hnm : Hid (∀ W, Calls Tryz.prog 29 #[.int .i64 24] W fun e w' => e = .returned (.string (mkS (wordAt opsT 24))) ∧ Below W.heap.size W w') := fun W => opName_calls 24 W (by omega) (by omega)
  obtain ⟨nm, hnmE⟩ : ∃ nm, wordAt opsT 24 = nm := ⟨_, rfl⟩
  rw [hnmE] at hnm ⊢
  clear hnmE
  go_enter Tryz.func12, Tryz.ntmps12
  go_wp2_with (go_at_call 29; fail)
  refine (hnm.out _).mono ?_
  rintro e W2 ⟨rfl, hb2⟩
  obtain ⟨hB3, hi3, hne3, hw3, hle3⟩ := firstWord w W2 #[.int .i64 24, .int .i64 (j : Int), .int .i64 (i : Int), .int .i64 b, .string T, .string C, .string N, .string Y, .slice ta n tc] nm hb2
  have hB3H : Hid (Below w.heap.size w (W2.alloc (.cells #[.string (mkS nm)] 9))) := hB3
  have hwk : Hid (Wrk w.heap.size (W2.alloc (.cells #[.string (mkS nm)] 9)) (.slice (some ⟨W2.heap.size, 0, none⟩) 1 1) [nm] (.slice (some ⟨W2.heap.size, 0, none⟩) 1 1) (W2.alloc (.cells #[.string (mkS nm)] 9))) := Wrk.start hw3 hle3
  have hcl : Hid (∀ (W : World) (ws : List (List UInt8)) (v : Value), Wrk w.heap.size (W2.alloc (.cells #[.string (mkS nm)] 9)) (.slice (some ⟨W2.heap.size, 0, none⟩) 1 1) ws v W → ∀ ix, W.cell? ⟨w.heap.size, ix, none⟩ = #[.int .i64 24, .int .i64 (j : Int), .int .i64 (i : Int), .int .i64 b, .string T, .string C, .string N, .string Y, .slice ta n tc][ix]?) := fun W ws v h ix => h.ins hi3 (by simp only [Value.ownBlock]; intro e; injection e with e; omega) ix
  have hlt2 : w.heap.size < W2.heap.size := by have := hb2.size; simp at this; omega
  have cW : ∀ ix, W2.cell? ⟨w.heap.size, ix, none⟩ = #[.int .i64 24, .int .i64 (j : Int), .int .i64 (i : Int), .int .i64 b, .string T, .string C, .string N, .string Y, .slice ta n tc][ix]? := fun ix => by
    have h := hcl.out _ _ _ hwk.out ix
    rw [World.cell?_alloc_past _ _ _ (show w.heap.size < W2.heap.size from hlt2)] at h
    exact h
  have c0 : W2.cell? ⟨w.heap.size, 0, none⟩ = some (.int .i64 24) := cW 0
  have c1 : W2.cell? ⟨w.heap.size, 1, none⟩ = some (.int .i64 (j : Int)) := cW 1
  have c2 : W2.cell? ⟨w.heap.size, 2, none⟩ = some (.int .i64 (i : Int)) := cW 2
  have c3 : W2.cell? ⟨w.heap.size, 3, none⟩ = some (.int .i64 b) := cW 3
  have c4 : W2.cell? ⟨w.heap.size, 4, none⟩ = some (.string T) := cW 4
  have c5 : W2.cell? ⟨w.heap.size, 5, none⟩ = some (.string C) := cW 5
  have c6 : W2.cell? ⟨w.heap.size, 6, none⟩ = some (.string N) := cW 6
  have c7 : W2.cell? ⟨w.heap.size, 7, none⟩ = some (.string Y) := cW 7
  have c8 : W2.cell? ⟨w.heap.size, 8, none⟩ = some (.slice ta n tc) := cW 8
  clear hb2 hB3 hi3 hne3 hw3 hle3 hnm cW
  go_wp2_with fail
  have hmk : Hid (∀ W, Wrk w.heap.size (W2.alloc (.cells #[.string (mkS nm)] 9)) (.slice (some ⟨W2.heap.size, 0, none⟩) 1 1) [nm] (.slice (some ⟨W2.heap.size, 0, none⟩) 1 1) W → (Hid (Wrk w.heap.size (W2.alloc (.cells #[.string (mkS nm)] 9)) (.slice (some ⟨W2.heap.size, 0, none⟩) 1 1) [nm] (.slice (some ⟨W2.heap.size, 0, none⟩) 1 1) W) ∧ W.cell? ⟨w.heap.size, 0, none⟩ = some (.int .i64 24) ∧ W.cell? ⟨w.heap.size, 1, none⟩ = some (.int .i64 (j : Int)) ∧ W.cell? ⟨w.heap.size, 2, none⟩ = some (.int .i64 (i : Int)) ∧ W.cell? ⟨w.heap.size, 3, none⟩ = some (.int .i64 b) ∧ W.cell? ⟨w.heap.size, 4, none⟩ = some (.string T) ∧ W.cell? ⟨w.heap.size, 5, none⟩ = some (.string C) ∧ W.cell? ⟨w.heap.size, 6, none⟩ = some (.string N) ∧ W.cell? ⟨w.heap.size, 7, none⟩ = some (.string Y) ∧ W.cell? ⟨w.heap.size, 8, none⟩ = some (.slice ta n tc))) := fun W h => ⟨h, hcl.out _ _ _ h 0, hcl.out _ _ _ h 1, hcl.out _ _ _ h 2, hcl.out _ _ _ h 3, hcl.out _ _ _ h 4, hcl.out _ _ _ h 5, hcl.out _ _ _ h 6, hcl.out _ _ _ h 7, hcl.out _ _ _ h 8⟩
  have hS0 := hmk.out _ hwk.out
  clear hwk hcl c0 c1 c2 c3 c4 c5 c6 c7 c8
  go_region_held3 (fun W => Hid (Wrk w.heap.size (W2.alloc (.cells #[.string (mkS nm)] 9)) (.slice (some ⟨W2.heap.size, 0, none⟩) 1 1) [nm] (.slice (some ⟨W2.heap.size, 0, none⟩) 1 1) W) ∧ W.cell? ⟨w.heap.size, 0, none⟩ = some (.int .i64 24) ∧ W.cell? ⟨w.heap.size, 1, none⟩ = some (.int .i64 (j : Int)) ∧ W.cell? ⟨w.heap.size, 2, none⟩ = some (.int .i64 (i : Int)) ∧ W.cell? ⟨w.heap.size, 3, none⟩ = some (.int .i64 b) ∧ W.cell? ⟨w.heap.size, 4, none⟩ = some (.string T) ∧ W.cell? ⟨w.heap.size, 5, none⟩ = some (.string C) ∧ W.cell? ⟨w.heap.size, 6, none⟩ = some (.string N) ∧ W.cell? ⟨w.heap.size, 7, none⟩ = some (.string Y) ∧ W.cell? ⟨w.heap.size, 8, none⟩ = some (.slice ta n tc)) (first | assumption | exact hmk.out _ hkp.out | exact hmk.out _ (Wrk.call (Hid.out (And.left (by assumption))) hbq) | exact hmk.out _ (Wrk.alloc (Hid.out (And.left (by assumption))) _) | exact hmk.out _ (Wrk.drew (Hid.out (And.left (by assumption))))) (first
      | (refine wp_appN _ _ _ rfl w.heap.size (W2.alloc (.cells #[.string (mkS nm)] 9)) (.slice (some ⟨W2.heap.size, 0, none⟩) 1 1) (.slice (some ⟨W2.heap.size, 0, none⟩) 1 1) [nm] [wordAt letT j, wordAt letT i] 2 _ rfl rfl rfl (cellsN _ _ [wordAt letT j, wordAt letT i] _ _ rfl (by simp)) (Hid.out (And.left (by assumption))) (by simp) ?_; intro v' w' hvH hkp)
      | (go_at_call 30; refine (letter_calls j _ (by omega)).mono ?_; rintro e wq ⟨rfl, hbq⟩)
      | (go_at_call 30; refine (letter_calls i _ (by omega)).mono ?_; rintro e wq ⟨rfl, hbq⟩))
  all_goals (go_wp2; go_ret; exact ⟨_, rfl, hvH.out.words, hB3H.out.trans hvH.out.below⟩)


set_option maxRecDepth 1000000 in
set_option maxHeartbeats 8000000 in
theorem sw33 (k a : Int) (j : Nat) (T C N Y : ByteArray) (ta : Option Addr) (n tc : Nat) (w : World) (hj : j < 5) :
    Calls Tryz.prog 12 #[insV 33 k a (j : Int) T C N Y (.slice ta n tc)] w fun e w' => ∃ v, e = .returned v ∧ WordsAt w.heap.size w' v (wordAt opsT 33 :: [wordAt howT j, C.data.toList, N.data.toList, Y.data.toList]) ∧ Below w.heap.size w w' := by
  have hnm : Hid (∀ W, Calls Tryz.prog 29 #[.int .i64 33] W fun e w' => e = .returned (.string (mkS (wordAt opsT 33))) ∧ Below W.heap.size W w') := fun W => opName_calls 33 W (by omega) (by omega)
  obtain ⟨nm, hnmE⟩ : ∃ nm, wordAt opsT 33 = nm := ⟨_, rfl⟩
  rw [hnmE] at hnm ⊢
  clear hnmE
  go_enter Tryz.func12, Tryz.ntmps12
  go_wp2_with (go_at_call 29; fail)
  refine (hnm.out _).mono ?_
  rintro e W2 ⟨rfl, hb2⟩
  obtain ⟨hB3, hi3, hne3, hw3, hle3⟩ := firstWord w W2 #[.int .i64 33, .int .i64 k, .int .i64 a, .int .i64 (j : Int), .string T, .string C, .string N, .string Y, .slice ta n tc] nm hb2
  have hB3H : Hid (Below w.heap.size w (W2.alloc (.cells #[.string (mkS nm)] 9))) := hB3
  have hwk : Hid (Wrk w.heap.size (W2.alloc (.cells #[.string (mkS nm)] 9)) (.slice (some ⟨W2.heap.size, 0, none⟩) 1 1) [nm] (.slice (some ⟨W2.heap.size, 0, none⟩) 1 1) (W2.alloc (.cells #[.string (mkS nm)] 9))) := Wrk.start hw3 hle3
  have hcl : Hid (∀ (W : World) (ws : List (List UInt8)) (v : Value), Wrk w.heap.size (W2.alloc (.cells #[.string (mkS nm)] 9)) (.slice (some ⟨W2.heap.size, 0, none⟩) 1 1) ws v W → ∀ ix, W.cell? ⟨w.heap.size, ix, none⟩ = #[.int .i64 33, .int .i64 k, .int .i64 a, .int .i64 (j : Int), .string T, .string C, .string N, .string Y, .slice ta n tc][ix]?) := fun W ws v h ix => h.ins hi3 (by simp only [Value.ownBlock]; intro e; injection e with e; omega) ix
  have hlt2 : w.heap.size < W2.heap.size := by have := hb2.size; simp at this; omega
  have cW : ∀ ix, W2.cell? ⟨w.heap.size, ix, none⟩ = #[.int .i64 33, .int .i64 k, .int .i64 a, .int .i64 (j : Int), .string T, .string C, .string N, .string Y, .slice ta n tc][ix]? := fun ix => by
    have h := hcl.out _ _ _ hwk.out ix
    rw [World.cell?_alloc_past _ _ _ (show w.heap.size < W2.heap.size from hlt2)] at h
    exact h
  have c0 : W2.cell? ⟨w.heap.size, 0, none⟩ = some (.int .i64 33) := cW 0
  have c1 : W2.cell? ⟨w.heap.size, 1, none⟩ = some (.int .i64 k) := cW 1
  have c2 : W2.cell? ⟨w.heap.size, 2, none⟩ = some (.int .i64 a) := cW 2
  have c3 : W2.cell? ⟨w.heap.size, 3, none⟩ = some (.int .i64 (j : Int)) := cW 3
  have c4 : W2.cell? ⟨w.heap.size, 4, none⟩ = some (.string T) := cW 4
  have c5 : W2.cell? ⟨w.heap.size, 5, none⟩ = some (.string C) := cW 5
  have c6 : W2.cell? ⟨w.heap.size, 6, none⟩ = some (.string N) := cW 6
  have c7 : W2.cell? ⟨w.heap.size, 7, none⟩ = some (.string Y) := cW 7
  have c8 : W2.cell? ⟨w.heap.size, 8, none⟩ = some (.slice ta n tc) := cW 8
  clear hb2 hB3 hi3 hne3 hw3 hle3 hnm cW
  go_wp2_with fail
  have hmk : Hid (∀ W, Wrk w.heap.size (W2.alloc (.cells #[.string (mkS nm)] 9)) (.slice (some ⟨W2.heap.size, 0, none⟩) 1 1) [nm] (.slice (some ⟨W2.heap.size, 0, none⟩) 1 1) W → (Hid (Wrk w.heap.size (W2.alloc (.cells #[.string (mkS nm)] 9)) (.slice (some ⟨W2.heap.size, 0, none⟩) 1 1) [nm] (.slice (some ⟨W2.heap.size, 0, none⟩) 1 1) W) ∧ W.cell? ⟨w.heap.size, 0, none⟩ = some (.int .i64 33) ∧ W.cell? ⟨w.heap.size, 1, none⟩ = some (.int .i64 k) ∧ W.cell? ⟨w.heap.size, 2, none⟩ = some (.int .i64 a) ∧ W.cell? ⟨w.heap.size, 3, none⟩ = some (.int .i64 (j : Int)) ∧ W.cell? ⟨w.heap.size, 4, none⟩ = some (.string T) ∧ W.cell? ⟨w.heap.size, 5, none⟩ = some (.string C) ∧ W.cell? ⟨w.heap.size, 6, none⟩ = some (.string N) ∧ W.cell? ⟨w.heap.size, 7, none⟩ = some (.string Y) ∧ W.cell? ⟨w.heap.size, 8, none⟩ = some (.slice ta n tc))) := fun W h => ⟨h, hcl.out _ _ _ h 0, hcl.out _ _ _ h 1, hcl.out _ _ _ h 2, hcl.out _ _ _ h 3, hcl.out _ _ _ h 4, hcl.out _ _ _ h 5, hcl.out _ _ _ h 6, hcl.out _ _ _ h 7, hcl.out _ _ _ h 8⟩
  have hS0 := hmk.out _ hwk.out
  clear hwk hcl c0 c1 c2 c3 c4 c5 c6 c7 c8
  go_region_held3 (fun W => Hid (Wrk w.heap.size (W2.alloc (.cells #[.string (mkS nm)] 9)) (.slice (some ⟨W2.heap.size, 0, none⟩) 1 1) [nm] (.slice (some ⟨W2.heap.size, 0, none⟩) 1 1) W) ∧ W.cell? ⟨w.heap.size, 0, none⟩ = some (.int .i64 33) ∧ W.cell? ⟨w.heap.size, 1, none⟩ = some (.int .i64 k) ∧ W.cell? ⟨w.heap.size, 2, none⟩ = some (.int .i64 a) ∧ W.cell? ⟨w.heap.size, 3, none⟩ = some (.int .i64 (j : Int)) ∧ W.cell? ⟨w.heap.size, 4, none⟩ = some (.string T) ∧ W.cell? ⟨w.heap.size, 5, none⟩ = some (.string C) ∧ W.cell? ⟨w.heap.size, 6, none⟩ = some (.string N) ∧ W.cell? ⟨w.heap.size, 7, none⟩ = some (.string Y) ∧ W.cell? ⟨w.heap.size, 8, none⟩ = some (.slice ta n tc)) (first | assumption | exact hmk.out _ hkp.out | exact hmk.out _ (Wrk.call (Hid.out (And.left (by assumption))) hbq) | exact hmk.out _ (Wrk.alloc (Hid.out (And.left (by assumption))) _) | exact hmk.out _ (Wrk.drew (Hid.out (And.left (by assumption))))) (first
      | (refine wp_appN _ _ _ rfl w.heap.size (W2.alloc (.cells #[.string (mkS nm)] 9)) (.slice (some ⟨W2.heap.size, 0, none⟩) 1 1) (.slice (some ⟨W2.heap.size, 0, none⟩) 1 1) [nm] [wordAt howT j, C.data.toList, N.data.toList, Y.data.toList] 4 _ rfl rfl rfl (cellsN _ _ [wordAt howT j, C.data.toList, N.data.toList, Y.data.toList] _ _ rfl (by simp)) (Hid.out (And.left (by assumption))) (by simp) ?_; intro v' w' hvH hkp)
      | (go_at_call 35; refine (how_calls j _ (by omega)).mono ?_; rintro e wq ⟨rfl, hbq⟩))
  all_goals (go_wp2; go_ret; exact ⟨_, rfl, hvH.out.words, hB3H.out.trans hvH.out.below⟩)

end Go.Proofs.YtcencddbdidjjaaGreatDoor

/- spec.l3Words. -/
namespace Go.Proofs.YtcencddbdidjjaaGreatDoor
set_option linter.unusedVariables false
open Go.ChangeShapes Go.WideShapes Go.ChangeAt Go.RowKit

set_option maxRecDepth 1000000 in
set_option maxHeartbeats 8000000 in
theorem sw37 (a b : Int) (j : Nat) (T C N Y : ByteArray) (ta : Option Addr) (n tc : Nat) (w : World) (hj : j < 8) :
    Calls Tryz.prog 12 #[insV 37 (j : Int) a b T C N Y (.slice ta n tc)] w fun e w' => ∃ v, e = .returned v ∧ WordsAt w.heap.size w' v (wordAt opsT 37 :: [wordAt letT j]) ∧ Below w.heap.size w w' := by
  have hnm : Hid (∀ W, Calls Tryz.prog 29 #[.int .i64 37] W fun e w' => e = .returned (.string (mkS (wordAt opsT 37))) ∧ Below W.heap.size W w') := fun W => opName_calls 37 W (by omega) (by omega)
  obtain ⟨nm, hnmE⟩ : ∃ nm, wordAt opsT 37 = nm := ⟨_, rfl⟩
  rw [hnmE] at hnm ⊢
  clear hnmE
  go_enter Tryz.func12, Tryz.ntmps12
  go_wp2_with (go_at_call 29; fail)
  refine (hnm.out _).mono ?_
  rintro e W2 ⟨rfl, hb2⟩
  obtain ⟨hB3, hi3, hne3, hw3, hle3⟩ := firstWord w W2 #[.int .i64 37, .int .i64 (j : Int), .int .i64 a, .int .i64 b, .string T, .string C, .string N, .string Y, .slice ta n tc] nm hb2
  have hB3H : Hid (Below w.heap.size w (W2.alloc (.cells #[.string (mkS nm)] 9))) := hB3
  have hwk : Hid (Wrk w.heap.size (W2.alloc (.cells #[.string (mkS nm)] 9)) (.slice (some ⟨W2.heap.size, 0, none⟩) 1 1) [nm] (.slice (some ⟨W2.heap.size, 0, none⟩) 1 1) (W2.alloc (.cells #[.string (mkS nm)] 9))) := Wrk.start hw3 hle3
  have hcl : Hid (∀ (W : World) (ws : List (List UInt8)) (v : Value), Wrk w.heap.size (W2.alloc (.cells #[.string (mkS nm)] 9)) (.slice (some ⟨W2.heap.size, 0, none⟩) 1 1) ws v W → ∀ ix, W.cell? ⟨w.heap.size, ix, none⟩ = #[.int .i64 37, .int .i64 (j : Int), .int .i64 a, .int .i64 b, .string T, .string C, .string N, .string Y, .slice ta n tc][ix]?) := fun W ws v h ix => h.ins hi3 (by simp only [Value.ownBlock]; intro e; injection e with e; omega) ix
  have hlt2 : w.heap.size < W2.heap.size := by have := hb2.size; simp at this; omega
  have cW : ∀ ix, W2.cell? ⟨w.heap.size, ix, none⟩ = #[.int .i64 37, .int .i64 (j : Int), .int .i64 a, .int .i64 b, .string T, .string C, .string N, .string Y, .slice ta n tc][ix]? := fun ix => by
    have h := hcl.out _ _ _ hwk.out ix
    rw [World.cell?_alloc_past _ _ _ (show w.heap.size < W2.heap.size from hlt2)] at h
    exact h
  have c0 : W2.cell? ⟨w.heap.size, 0, none⟩ = some (.int .i64 37) := cW 0
  have c1 : W2.cell? ⟨w.heap.size, 1, none⟩ = some (.int .i64 (j : Int)) := cW 1
  have c2 : W2.cell? ⟨w.heap.size, 2, none⟩ = some (.int .i64 a) := cW 2
  have c3 : W2.cell? ⟨w.heap.size, 3, none⟩ = some (.int .i64 b) := cW 3
  have c4 : W2.cell? ⟨w.heap.size, 4, none⟩ = some (.string T) := cW 4
  have c5 : W2.cell? ⟨w.heap.size, 5, none⟩ = some (.string C) := cW 5
  have c6 : W2.cell? ⟨w.heap.size, 6, none⟩ = some (.string N) := cW 6
  have c7 : W2.cell? ⟨w.heap.size, 7, none⟩ = some (.string Y) := cW 7
  have c8 : W2.cell? ⟨w.heap.size, 8, none⟩ = some (.slice ta n tc) := cW 8
  clear hb2 hB3 hi3 hne3 hw3 hle3 hnm cW
  go_wp2_with (first
      | (go_at_call 30; refine (letter_calls j _ (by omega)).mono ?_; rintro e Wn ⟨rfl, hbn⟩; have hwk2 : Hid (Wrk w.heap.size (W2.alloc (.cells #[.string (mkS nm)] 9)) (.slice (some ⟨W2.heap.size, 0, none⟩) 1 1) [nm] (.slice (some ⟨W2.heap.size, 0, none⟩) 1 1) Wn) := hwk.out.call hbn; clear hbn)
      | (at_builtin; refine appN rfl _ _ _ rfl w.heap.size (W2.alloc (.cells #[.string (mkS nm)] 9)) (.slice (some ⟨W2.heap.size, 0, none⟩) 1 1) (.slice (some ⟨W2.heap.size, 0, none⟩) 1 1) [nm] [wordAt letT j] 1 _ rfl rfl rfl (cellsN _ _ [wordAt letT j] _ _ rfl (by simp)) (hwk2.out.alloc _) (by simp) ?_; intro v' w' hvH))
  all_goals (go_ret; exact ⟨_, rfl, hvH.out.words, hB3H.out.trans hvH.out.below⟩)


set_option maxRecDepth 1000000 in
set_option maxHeartbeats 8000000 in
theorem sw38 (a b : Int) (j : Nat) (T C N Y : ByteArray) (ta : Option Addr) (n tc : Nat) (w : World) (hj : j < 8) :
    Calls Tryz.prog 12 #[insV 38 (j : Int) a b T C N Y (.slice ta n tc)] w fun e w' => ∃ v, e = .returned v ∧ WordsAt w.heap.size w' v (wordAt opsT 38 :: [wordAt letT j]) ∧ Below w.heap.size w w' := by
  have hnm : Hid (∀ W, Calls Tryz.prog 29 #[.int .i64 38] W fun e w' => e = .returned (.string (mkS (wordAt opsT 38))) ∧ Below W.heap.size W w') := fun W => opName_calls 38 W (by omega) (by omega)
  obtain ⟨nm, hnmE⟩ : ∃ nm, wordAt opsT 38 = nm := ⟨_, rfl⟩
  rw [hnmE] at hnm ⊢
  clear hnmE
  go_enter Tryz.func12, Tryz.ntmps12
  go_wp2_with (go_at_call 29; fail)
  refine (hnm.out _).mono ?_
  rintro e W2 ⟨rfl, hb2⟩
  obtain ⟨hB3, hi3, hne3, hw3, hle3⟩ := firstWord w W2 #[.int .i64 38, .int .i64 (j : Int), .int .i64 a, .int .i64 b, .string T, .string C, .string N, .string Y, .slice ta n tc] nm hb2
  have hB3H : Hid (Below w.heap.size w (W2.alloc (.cells #[.string (mkS nm)] 9))) := hB3
  have hwk : Hid (Wrk w.heap.size (W2.alloc (.cells #[.string (mkS nm)] 9)) (.slice (some ⟨W2.heap.size, 0, none⟩) 1 1) [nm] (.slice (some ⟨W2.heap.size, 0, none⟩) 1 1) (W2.alloc (.cells #[.string (mkS nm)] 9))) := Wrk.start hw3 hle3
  have hcl : Hid (∀ (W : World) (ws : List (List UInt8)) (v : Value), Wrk w.heap.size (W2.alloc (.cells #[.string (mkS nm)] 9)) (.slice (some ⟨W2.heap.size, 0, none⟩) 1 1) ws v W → ∀ ix, W.cell? ⟨w.heap.size, ix, none⟩ = #[.int .i64 38, .int .i64 (j : Int), .int .i64 a, .int .i64 b, .string T, .string C, .string N, .string Y, .slice ta n tc][ix]?) := fun W ws v h ix => h.ins hi3 (by simp only [Value.ownBlock]; intro e; injection e with e; omega) ix
  have hlt2 : w.heap.size < W2.heap.size := by have := hb2.size; simp at this; omega
  have cW : ∀ ix, W2.cell? ⟨w.heap.size, ix, none⟩ = #[.int .i64 38, .int .i64 (j : Int), .int .i64 a, .int .i64 b, .string T, .string C, .string N, .string Y, .slice ta n tc][ix]? := fun ix => by
    have h := hcl.out _ _ _ hwk.out ix
    rw [World.cell?_alloc_past _ _ _ (show w.heap.size < W2.heap.size from hlt2)] at h
    exact h
  have c0 : W2.cell? ⟨w.heap.size, 0, none⟩ = some (.int .i64 38) := cW 0
  have c1 : W2.cell? ⟨w.heap.size, 1, none⟩ = some (.int .i64 (j : Int)) := cW 1
  have c2 : W2.cell? ⟨w.heap.size, 2, none⟩ = some (.int .i64 a) := cW 2
  have c3 : W2.cell? ⟨w.heap.size, 3, none⟩ = some (.int .i64 b) := cW 3
  have c4 : W2.cell? ⟨w.heap.size, 4, none⟩ = some (.string T) := cW 4
  have c5 : W2.cell? ⟨w.heap.size, 5, none⟩ = some (.string C) := cW 5
  have c6 : W2.cell? ⟨w.heap.size, 6, none⟩ = some (.string N) := cW 6
  have c7 : W2.cell? ⟨w.heap.size, 7, none⟩ = some (.string Y) := cW 7
  have c8 : W2.cell? ⟨w.heap.size, 8, none⟩ = some (.slice ta n tc) := cW 8
  clear hb2 hB3 hi3 hne3 hw3 hle3 hnm cW
  go_wp2_with (first
      | (go_at_call 30; refine (letter_calls j _ (by omega)).mono ?_; rintro e Wn ⟨rfl, hbn⟩; have hwk2 : Hid (Wrk w.heap.size (W2.alloc (.cells #[.string (mkS nm)] 9)) (.slice (some ⟨W2.heap.size, 0, none⟩) 1 1) [nm] (.slice (some ⟨W2.heap.size, 0, none⟩) 1 1) Wn) := hwk.out.call hbn; clear hbn)
      | (at_builtin; refine appN rfl _ _ _ rfl w.heap.size (W2.alloc (.cells #[.string (mkS nm)] 9)) (.slice (some ⟨W2.heap.size, 0, none⟩) 1 1) (.slice (some ⟨W2.heap.size, 0, none⟩) 1 1) [nm] [wordAt letT j] 1 _ rfl rfl rfl (cellsN _ _ [wordAt letT j] _ _ rfl (by simp)) (hwk2.out.alloc _) (by simp) ?_; intro v' w' hvH))
  all_goals (go_ret; exact ⟨_, rfl, hvH.out.words, hB3H.out.trans hvH.out.below⟩)

end Go.Proofs.YtcencddbdidjjaaGreatDoor
