/- spec.l3Words. -/
import Derived.Test.YtcencddbdidjjaaGreatDoorSpW
import Derived.Test.YtcencddbdidjjaaGreatDoorSpA
namespace Go.Proofs.YtcencddbdidjjaaGreatDoor
set_option linter.unusedVariables false
open Go.ChangeShapes Go.WideShapes Go.ChangeAt Go.RowKit

theorem any32 (a b x : Int) (w : World) (ha : B64 a) (hb : B64 b) (hx : x = a ∨ x = b) : Calls Tryz.prog 32 #[.int .i64 x] w fun e w' => e = .returned (.string (FN x)) ∧ Below w.heap.size w w' := by
  rcases hx with rfl | rfl
  · exact int_calls _ w ha
  · exact int_calls _ w hb
set_option maxRecDepth 1000000 in
set_option maxHeartbeats 8000000 in
theorem sw6 (k a b : Int) (T C N Y : ByteArray) (ta : Option Addr) (n tc : Nat) (w : World) (h64 : B64 a) (h64b : B64 b) :
    Calls Tryz.prog 12 #[insV 6 k a b T C N Y (.slice ta n tc)] w fun e w' => ∃ v, e = .returned v ∧ WordsAt w.heap.size w' v (wordAt opsT 6 :: [Lib.itoa a, Lib.itoa b]) ∧ Below w.heap.size w w' := by
  have hnm : Hid (∀ W, Calls Tryz.prog 29 #[.int .i64 6] W fun e w' => e = .returned (.string (mkS (wordAt opsT 6))) ∧ Below W.heap.size W w') := fun W => opName_calls 6 W (by omega) (by omega)
  obtain ⟨nm, hnmE⟩ : ∃ nm, wordAt opsT 6 = nm := ⟨_, rfl⟩
  rw [hnmE] at hnm ⊢
  clear hnmE
  go_enter Tryz.func12, Tryz.ntmps12
  go_wp2_with (go_at_call 29; fail)
  refine (hnm.out _).mono ?_
  rintro e W2 ⟨rfl, hb2⟩
  obtain ⟨hB3, hi3, hne3, hw3, hle3⟩ := firstWord w W2 #[.int .i64 6, .int .i64 k, .int .i64 a, .int .i64 b, .string T, .string C, .string N, .string Y, .slice ta n tc] nm hb2
  have hB3H : Hid (Below w.heap.size w (W2.alloc (.cells #[.string (mkS nm)] 9))) := hB3
  have hwk : Hid (Wrk w.heap.size (W2.alloc (.cells #[.string (mkS nm)] 9)) (.slice (some ⟨W2.heap.size, 0, none⟩) 1 1) [nm] (.slice (some ⟨W2.heap.size, 0, none⟩) 1 1) (W2.alloc (.cells #[.string (mkS nm)] 9))) := Wrk.start hw3 hle3
  have hcl : Hid (∀ (W : World) (ws : List (List UInt8)) (v : Value), Wrk w.heap.size (W2.alloc (.cells #[.string (mkS nm)] 9)) (.slice (some ⟨W2.heap.size, 0, none⟩) 1 1) ws v W → ∀ ix, W.cell? ⟨w.heap.size, ix, none⟩ = #[.int .i64 6, .int .i64 k, .int .i64 a, .int .i64 b, .string T, .string C, .string N, .string Y, .slice ta n tc][ix]?) := fun W ws v h ix => h.ins hi3 (by simp only [Value.ownBlock]; intro e; injection e with e; omega) ix
  have hlt2 : w.heap.size < W2.heap.size := by have := hb2.size; simp at this; omega
  have cW : ∀ ix, W2.cell? ⟨w.heap.size, ix, none⟩ = #[.int .i64 6, .int .i64 k, .int .i64 a, .int .i64 b, .string T, .string C, .string N, .string Y, .slice ta n tc][ix]? := fun ix => by
    have h := hcl.out _ _ _ hwk.out ix
    rw [World.cell?_alloc_past _ _ _ (show w.heap.size < W2.heap.size from hlt2)] at h
    exact h
  have c0 : W2.cell? ⟨w.heap.size, 0, none⟩ = some (.int .i64 6) := cW 0
  have c1 : W2.cell? ⟨w.heap.size, 1, none⟩ = some (.int .i64 k) := cW 1
  have c2 : W2.cell? ⟨w.heap.size, 2, none⟩ = some (.int .i64 a) := cW 2
  have c3 : W2.cell? ⟨w.heap.size, 3, none⟩ = some (.int .i64 b) := cW 3
  have c4 : W2.cell? ⟨w.heap.size, 4, none⟩ = some (.string T) := cW 4
  have c5 : W2.cell? ⟨w.heap.size, 5, none⟩ = some (.string C) := cW 5
  have c6 : W2.cell? ⟨w.heap.size, 6, none⟩ = some (.string N) := cW 6
  have c7 : W2.cell? ⟨w.heap.size, 7, none⟩ = some (.string Y) := cW 7
  have c8 : W2.cell? ⟨w.heap.size, 8, none⟩ = some (.slice ta n tc) := cW 8
  clear hb2 hB3 hi3 hne3 hw3 hle3 hnm cW
  go_wp2_with fail
  have hmk : Hid (∀ W, Wrk w.heap.size (W2.alloc (.cells #[.string (mkS nm)] 9)) (.slice (some ⟨W2.heap.size, 0, none⟩) 1 1) [nm] (.slice (some ⟨W2.heap.size, 0, none⟩) 1 1) W → (Hid (Wrk w.heap.size (W2.alloc (.cells #[.string (mkS nm)] 9)) (.slice (some ⟨W2.heap.size, 0, none⟩) 1 1) [nm] (.slice (some ⟨W2.heap.size, 0, none⟩) 1 1) W) ∧ W.cell? ⟨w.heap.size, 0, none⟩ = some (.int .i64 6) ∧ W.cell? ⟨w.heap.size, 1, none⟩ = some (.int .i64 k) ∧ W.cell? ⟨w.heap.size, 2, none⟩ = some (.int .i64 a) ∧ W.cell? ⟨w.heap.size, 3, none⟩ = some (.int .i64 b) ∧ W.cell? ⟨w.heap.size, 4, none⟩ = some (.string T) ∧ W.cell? ⟨w.heap.size, 5, none⟩ = some (.string C) ∧ W.cell? ⟨w.heap.size, 6, none⟩ = some (.string N) ∧ W.cell? ⟨w.heap.size, 7, none⟩ = some (.string Y) ∧ W.cell? ⟨w.heap.size, 8, none⟩ = some (.slice ta n tc))) := fun W h => ⟨h, hcl.out _ _ _ h 0, hcl.out _ _ _ h 1, hcl.out _ _ _ h 2, hcl.out _ _ _ h 3, hcl.out _ _ _ h 4, hcl.out _ _ _ h 5, hcl.out _ _ _ h 6, hcl.out _ _ _ h 7, hcl.out _ _ _ h 8⟩
  have hS0 := hmk.out _ hwk.out
  clear hwk hcl c0 c1 c2 c3 c4 c5 c6 c7 c8
  go_region_held3 (fun W => Hid (Wrk w.heap.size (W2.alloc (.cells #[.string (mkS nm)] 9)) (.slice (some ⟨W2.heap.size, 0, none⟩) 1 1) [nm] (.slice (some ⟨W2.heap.size, 0, none⟩) 1 1) W) ∧ W.cell? ⟨w.heap.size, 0, none⟩ = some (.int .i64 6) ∧ W.cell? ⟨w.heap.size, 1, none⟩ = some (.int .i64 k) ∧ W.cell? ⟨w.heap.size, 2, none⟩ = some (.int .i64 a) ∧ W.cell? ⟨w.heap.size, 3, none⟩ = some (.int .i64 b) ∧ W.cell? ⟨w.heap.size, 4, none⟩ = some (.string T) ∧ W.cell? ⟨w.heap.size, 5, none⟩ = some (.string C) ∧ W.cell? ⟨w.heap.size, 6, none⟩ = some (.string N) ∧ W.cell? ⟨w.heap.size, 7, none⟩ = some (.string Y) ∧ W.cell? ⟨w.heap.size, 8, none⟩ = some (.slice ta n tc)) (first | assumption | exact hmk.out _ hkp.out | exact hmk.out _ (Wrk.call (Hid.out (And.left (by assumption))) hbq) | exact hmk.out _ (Wrk.alloc (Hid.out (And.left (by assumption))) _) | exact hmk.out _ (Wrk.drew (Hid.out (And.left (by assumption))))) (first
      | (refine wp_appN _ _ _ rfl w.heap.size (W2.alloc (.cells #[.string (mkS nm)] 9)) (.slice (some ⟨W2.heap.size, 0, none⟩) 1 1) (.slice (some ⟨W2.heap.size, 0, none⟩) 1 1) [nm] [Lib.itoa a, Lib.itoa b] 2 _ rfl rfl rfl (cellsN _ _ [Lib.itoa a, Lib.itoa b] _ _ rfl (by simp)) (Hid.out (And.left (by assumption))) (by simp) ?_; intro v' w' hvH hkp)
      | (go_at_call 32; refine (any32 a b _ _ h64 h64b (by first | exact .inl rfl | exact .inr rfl)).mono ?_; rintro e wq ⟨rfl, hbq⟩))
  all_goals (go_wp2; go_ret; exact ⟨_, rfl, hvH.out.words, hB3H.out.trans hvH.out.below⟩)

end Go.Proofs.YtcencddbdidjjaaGreatDoor

/- spec.l3Words. -/
namespace Go.Proofs.YtcencddbdidjjaaGreatDoor
set_option linter.unusedVariables false
open Go.ChangeShapes Go.WideShapes Go.ChangeAt Go.RowKit

set_option maxRecDepth 1000000 in
set_option maxHeartbeats 8000000 in
theorem sw31s (k a : Int) (T C N Y : ByteArray) (ta : Option Addr) (n tc : Nat) (w : World) :
    Calls Tryz.prog 12 #[insV 31 k a 1 T C N Y (.slice ta n tc)] w fun e w' => ∃ v, e = .returned v ∧ WordsAt w.heap.size w' v ((wordAt opsT 31 ++ [115, 116, 97, 116, 105, 99]) :: [C.data.toList, N.data.toList, Y.data.toList]) ∧ Below w.heap.size w w' := by
  have hnm : Hid (∀ W, Calls Tryz.prog 29 #[.int .i64 31] W fun e w' => e = .returned (.string (mkS (wordAt opsT 31))) ∧ Below W.heap.size W w') := fun W => opName_calls 31 W (by omega) (by omega)
  obtain ⟨nm, hnmE⟩ : ∃ nm, wordAt opsT 31 = nm := ⟨_, rfl⟩
  rw [hnmE] at hnm ⊢
  have hnl : (mkS nm).size ≤ 100 := by rw [← hnmE]; decide
  have happ : Hid (mkS nm ++ ⟨#[115, 116, 97, 116, 105, 99]⟩ = mkS (nm ++ [115, 116, 97, 116, 105, 99])) := mkS_append nm [115, 116, 97, 116, 105, 99]
  clear hnmE
  obtain ⟨nm2, hnm2⟩ : ∃ nm2, nm ++ [115, 116, 97, 116, 105, 99] = nm2 := ⟨_, rfl⟩
  rw [hnm2] at happ ⊢
  clear hnm2
  go_enter Tryz.func12, Tryz.ntmps12
  go_wp2_with (go_at_call 29; fail)
  refine (hnm.out _).mono ?_
  rintro e W2 ⟨rfl, hb2⟩
  obtain ⟨hB3, hi3, hne3, hw3, hle3⟩ := firstWord w W2 #[.int .i64 31, .int .i64 k, .int .i64 a, .int .i64 1, .string T, .string C, .string N, .string Y, .slice ta n tc] nm2 hb2
  have hB3H : Hid (Below w.heap.size w (W2.alloc (.cells #[.string (mkS nm2)] 9))) := hB3
  have hwk : Hid (Wrk w.heap.size (W2.alloc (.cells #[.string (mkS nm2)] 9)) (.slice (some ⟨W2.heap.size, 0, none⟩) 1 1) [nm2] (.slice (some ⟨W2.heap.size, 0, none⟩) 1 1) (W2.alloc (.cells #[.string (mkS nm2)] 9))) := Wrk.start hw3 hle3
  have hcl : Hid (∀ (W : World) (ws : List (List UInt8)) (v : Value), Wrk w.heap.size (W2.alloc (.cells #[.string (mkS nm2)] 9)) (.slice (some ⟨W2.heap.size, 0, none⟩) 1 1) ws v W → ∀ ix, W.cell? ⟨w.heap.size, ix, none⟩ = #[.int .i64 31, .int .i64 k, .int .i64 a, .int .i64 1, .string T, .string C, .string N, .string Y, .slice ta n tc][ix]?) := fun W ws v h ix => h.ins hi3 (by simp only [Value.ownBlock]; intro e; injection e with e; omega) ix
  have hlt2 : w.heap.size < W2.heap.size := by have := hb2.size; simp at this; omega
  have cW : ∀ ix, W2.cell? ⟨w.heap.size, ix, none⟩ = #[.int .i64 31, .int .i64 k, .int .i64 a, .int .i64 1, .string T, .string C, .string N, .string Y, .slice ta n tc][ix]? := fun ix => by
    have h := hcl.out _ _ _ hwk.out ix
    rw [World.cell?_alloc_past _ _ _ (show w.heap.size < W2.heap.size from hlt2)] at h
    exact h
  have c0 : W2.cell? ⟨w.heap.size, 0, none⟩ = some (.int .i64 31) := cW 0
  have c1 : W2.cell? ⟨w.heap.size, 1, none⟩ = some (.int .i64 k) := cW 1
  have c2 : W2.cell? ⟨w.heap.size, 2, none⟩ = some (.int .i64 a) := cW 2
  have c3 : W2.cell? ⟨w.heap.size, 3, none⟩ = some (.int .i64 1) := cW 3
  have c4 : W2.cell? ⟨w.heap.size, 4, none⟩ = some (.string T) := cW 4
  have c5 : W2.cell? ⟨w.heap.size, 5, none⟩ = some (.string C) := cW 5
  have c6 : W2.cell? ⟨w.heap.size, 6, none⟩ = some (.string N) := cW 6
  have c7 : W2.cell? ⟨w.heap.size, 7, none⟩ = some (.string Y) := cW 7
  have c8 : W2.cell? ⟨w.heap.size, 8, none⟩ = some (.slice ta n tc) := cW 8
  clear hb2 hB3 hi3 hne3 hw3 hle3 hnm cW
  go_wp2_with (at_builtin; rw [happ.out]; refine appN rfl _ _ _ rfl w.heap.size (W2.alloc (.cells #[.string (mkS nm2)] 9)) (.slice (some ⟨W2.heap.size, 0, none⟩) 1 1) (.slice (some ⟨W2.heap.size, 0, none⟩) 1 1) [nm2] [C.data.toList, N.data.toList, Y.data.toList] 3 _ rfl rfl rfl (cellsN _ _ [C.data.toList, N.data.toList, Y.data.toList] _ _ rfl (by simp)) (hwk.out.alloc _) (by simp) ?_; intro v' w' hvH)
  all_goals (go_ret; exact ⟨_, rfl, hvH.out.words, hB3H.out.trans hvH.out.below⟩)


set_option maxRecDepth 1000000 in
set_option maxHeartbeats 8000000 in
theorem sw32s (k a : Int) (T C N Y : ByteArray) (ta : Option Addr) (n tc : Nat) (w : World) :
    Calls Tryz.prog 12 #[insV 32 k a 1 T C N Y (.slice ta n tc)] w fun e w' => ∃ v, e = .returned v ∧ WordsAt w.heap.size w' v ((wordAt opsT 32 ++ [115, 116, 97, 116, 105, 99]) :: [C.data.toList, N.data.toList, Y.data.toList]) ∧ Below w.heap.size w w' := by
  have hnm : Hid (∀ W, Calls Tryz.prog 29 #[.int .i64 32] W fun e w' => e = .returned (.string (mkS (wordAt opsT 32))) ∧ Below W.heap.size W w') := fun W => opName_calls 32 W (by omega) (by omega)
  obtain ⟨nm, hnmE⟩ : ∃ nm, wordAt opsT 32 = nm := ⟨_, rfl⟩
  rw [hnmE] at hnm ⊢
  have hnl : (mkS nm).size ≤ 100 := by rw [← hnmE]; decide
  have happ : Hid (mkS nm ++ ⟨#[115, 116, 97, 116, 105, 99]⟩ = mkS (nm ++ [115, 116, 97, 116, 105, 99])) := mkS_append nm [115, 116, 97, 116, 105, 99]
  clear hnmE
  obtain ⟨nm2, hnm2⟩ : ∃ nm2, nm ++ [115, 116, 97, 116, 105, 99] = nm2 := ⟨_, rfl⟩
  rw [hnm2] at happ ⊢
  clear hnm2
  go_enter Tryz.func12, Tryz.ntmps12
  go_wp2_with (go_at_call 29; fail)
  refine (hnm.out _).mono ?_
  rintro e W2 ⟨rfl, hb2⟩
  obtain ⟨hB3, hi3, hne3, hw3, hle3⟩ := firstWord w W2 #[.int .i64 32, .int .i64 k, .int .i64 a, .int .i64 1, .string T, .string C, .string N, .string Y, .slice ta n tc] nm2 hb2
  have hB3H : Hid (Below w.heap.size w (W2.alloc (.cells #[.string (mkS nm2)] 9))) := hB3
  have hwk : Hid (Wrk w.heap.size (W2.alloc (.cells #[.string (mkS nm2)] 9)) (.slice (some ⟨W2.heap.size, 0, none⟩) 1 1) [nm2] (.slice (some ⟨W2.heap.size, 0, none⟩) 1 1) (W2.alloc (.cells #[.string (mkS nm2)] 9))) := Wrk.start hw3 hle3
  have hcl : Hid (∀ (W : World) (ws : List (List UInt8)) (v : Value), Wrk w.heap.size (W2.alloc (.cells #[.string (mkS nm2)] 9)) (.slice (some ⟨W2.heap.size, 0, none⟩) 1 1) ws v W → ∀ ix, W.cell? ⟨w.heap.size, ix, none⟩ = #[.int .i64 32, .int .i64 k, .int .i64 a, .int .i64 1, .string T, .string C, .string N, .string Y, .slice ta n tc][ix]?) := fun W ws v h ix => h.ins hi3 (by simp only [Value.ownBlock]; intro e; injection e with e; omega) ix
  have hlt2 : w.heap.size < W2.heap.size := by have := hb2.size; simp at this; omega
  have cW : ∀ ix, W2.cell? ⟨w.heap.size, ix, none⟩ = #[.int .i64 32, .int .i64 k, .int .i64 a, .int .i64 1, .string T, .string C, .string N, .string Y, .slice ta n tc][ix]? := fun ix => by
    have h := hcl.out _ _ _ hwk.out ix
    rw [World.cell?_alloc_past _ _ _ (show w.heap.size < W2.heap.size from hlt2)] at h
    exact h
  have c0 : W2.cell? ⟨w.heap.size, 0, none⟩ = some (.int .i64 32) := cW 0
  have c1 : W2.cell? ⟨w.heap.size, 1, none⟩ = some (.int .i64 k) := cW 1
  have c2 : W2.cell? ⟨w.heap.size, 2, none⟩ = some (.int .i64 a) := cW 2
  have c3 : W2.cell? ⟨w.heap.size, 3, none⟩ = some (.int .i64 1) := cW 3
  have c4 : W2.cell? ⟨w.heap.size, 4, none⟩ = some (.string T) := cW 4
  have c5 : W2.cell? ⟨w.heap.size, 5, none⟩ = some (.string C) := cW 5
  have c6 : W2.cell? ⟨w.heap.size, 6, none⟩ = some (.string N) := cW 6
  have c7 : W2.cell? ⟨w.heap.size, 7, none⟩ = some (.string Y) := cW 7
  have c8 : W2.cell? ⟨w.heap.size, 8, none⟩ = some (.slice ta n tc) := cW 8
  clear hb2 hB3 hi3 hne3 hw3 hle3 hnm cW
  go_wp2_with (at_builtin; rw [happ.out]; refine appN rfl _ _ _ rfl w.heap.size (W2.alloc (.cells #[.string (mkS nm2)] 9)) (.slice (some ⟨W2.heap.size, 0, none⟩) 1 1) (.slice (some ⟨W2.heap.size, 0, none⟩) 1 1) [nm2] [C.data.toList, N.data.toList, Y.data.toList] 3 _ rfl rfl rfl (cellsN _ _ [C.data.toList, N.data.toList, Y.data.toList] _ _ rfl (by simp)) (hwk.out.alloc _) (by simp) ?_; intro v' w' hvH)
  all_goals (go_ret; exact ⟨_, rfl, hvH.out.words, hB3H.out.trans hvH.out.below⟩)

end Go.Proofs.YtcencddbdidjjaaGreatDoor

/- spec.l3Words. -/
namespace Go.Proofs.YtcencddbdidjjaaGreatDoor
set_option linter.unusedVariables false
open Go.ChangeShapes Go.WideShapes Go.ChangeAt Go.RowKit

theorem any32b (a b x : Int) (w : World) (ha : B64 a) (hb : B64 b) (hx : x = a ∨ x = b) : Calls Tryz.prog 32 #[.int .i64 x] w fun e w' => e = .returned (.string (FN x)) ∧ Below w.heap.size w w' := by
  rcases hx with rfl | rfl
  · exact int_calls _ w ha
  · exact int_calls _ w hb
set_option maxRecDepth 1000000 in
set_option maxHeartbeats 8000000 in
theorem sw30 (k a b : Int) (T C N Y : ByteArray) (ta : Option Addr) (n tc : Nat) (w : World) (zs : List Int) (h64 : B64 a) (h64b : B64 b) (hz : zs.length ≤ 1048576) (hzs : ∀ z ∈ zs, B64 z) (ht : Tab w (.slice ta zs.length tc) zs) (hn : n = zs.length) :
    Calls Tryz.prog 12 #[insV 30 k a b T C N Y (.slice ta n tc)] w fun e w' => ∃ v, e = .returned v ∧ WordsAt w.heap.size w' v (wordAt opsT 30 :: Lib.itoa b :: Lib.itoa a :: zs.map Lib.itoa) ∧ Below w.heap.size w w' := by
  have hnm : Hid (∀ W, Calls Tryz.prog 29 #[.int .i64 30] W fun e w' => e = .returned (.string (mkS (wordAt opsT 30))) ∧ Below W.heap.size W w') := fun W => opName_calls 30 W (by omega) (by omega)
  obtain ⟨nm, hnmE⟩ : ∃ nm, wordAt opsT 30 = nm := ⟨_, rfl⟩
  rw [hnmE] at hnm ⊢
  clear hnmE
  have htH : Hid (∀ W, Below w.heap.size w W → Tab W (.slice ta zs.length tc) zs) := fun W hW => ht.kept hW
  have h64H : Hid (∀ z ∈ zs, B64 z) := hzs
  have hnE : Hid (n = zs.length) := hn
  have hn' : n ≤ 1048576 := by omega
  clear ht hzs hn hz
  go_enter Tryz.func12, Tryz.ntmps12
  go_wp2_with (go_at_call 29; fail)
  refine (hnm.out _).mono ?_
  rintro e W2 ⟨rfl, hb2⟩
  obtain ⟨hB3, hi3, hne3, hw3, hle3⟩ := firstWord w W2 #[.int .i64 30, .int .i64 k, .int .i64 a, .int .i64 b, .string T, .string C, .string N, .string Y, .slice ta n tc] nm hb2
  have hB3H : Hid (Below w.heap.size w (W2.alloc (.cells #[.string (mkS nm)] 9))) := hB3
  have hwk : Hid (Wrk w.heap.size (W2.alloc (.cells #[.string (mkS nm)] 9)) (.slice (some ⟨W2.heap.size, 0, none⟩) 1 1) [nm] (.slice (some ⟨W2.heap.size, 0, none⟩) 1 1) (W2.alloc (.cells #[.string (mkS nm)] 9))) := Wrk.start hw3 hle3
  have hcl : Hid (∀ (W : World) (ws : List (List UInt8)) (v : Value), Wrk w.heap.size (W2.alloc (.cells #[.string (mkS nm)] 9)) (.slice (some ⟨W2.heap.size, 0, none⟩) 1 1) ws v W → ∀ ix, W.cell? ⟨w.heap.size, ix, none⟩ = #[.int .i64 30, .int .i64 k, .int .i64 a, .int .i64 b, .string T, .string C, .string N, .string Y, .slice ta n tc][ix]?) := fun W ws v h ix => h.ins hi3 (by simp only [Value.ownBlock]; intro e; injection e with e; omega) ix
  have hlt2 : w.heap.size < W2.heap.size := by have := hb2.size; simp at this; omega
  have cW : ∀ ix, W2.cell? ⟨w.heap.size, ix, none⟩ = #[.int .i64 30, .int .i64 k, .int .i64 a, .int .i64 b, .string T, .string C, .string N, .string Y, .slice ta n tc][ix]? := fun ix => by
    have h := hcl.out _ _ _ hwk.out ix
    rw [World.cell?_alloc_past _ _ _ (show w.heap.size < W2.heap.size from hlt2)] at h
    exact h
  have c0 : W2.cell? ⟨w.heap.size, 0, none⟩ = some (.int .i64 30) := cW 0
  have c1 : W2.cell? ⟨w.heap.size, 1, none⟩ = some (.int .i64 k) := cW 1
  have c2 : W2.cell? ⟨w.heap.size, 2, none⟩ = some (.int .i64 a) := cW 2
  have c3 : W2.cell? ⟨w.heap.size, 3, none⟩ = some (.int .i64 b) := cW 3
  have c4 : W2.cell? ⟨w.heap.size, 4, none⟩ = some (.string T) := cW 4
  have c5 : W2.cell? ⟨w.heap.size, 5, none⟩ = some (.string C) := cW 5
  have c6 : W2.cell? ⟨w.heap.size, 6, none⟩ = some (.string N) := cW 6
  have c7 : W2.cell? ⟨w.heap.size, 7, none⟩ = some (.string Y) := cW 7
  have c8 : W2.cell? ⟨w.heap.size, 8, none⟩ = some (.slice ta n tc) := cW 8
  clear hb2 hB3 hi3 hne3 hw3 hle3 hnm cW
  go_wp2_with fail
  have hclH := hcl
  have hmk : Hid (∀ W, Wrk w.heap.size (W2.alloc (.cells #[.string (mkS nm)] 9)) (.slice (some ⟨W2.heap.size, 0, none⟩) 1 1) [nm] (.slice (some ⟨W2.heap.size, 0, none⟩) 1 1) W → (Hid (Wrk w.heap.size (W2.alloc (.cells #[.string (mkS nm)] 9)) (.slice (some ⟨W2.heap.size, 0, none⟩) 1 1) [nm] (.slice (some ⟨W2.heap.size, 0, none⟩) 1 1) W) ∧ W.cell? ⟨w.heap.size, 0, none⟩ = some (.int .i64 30) ∧ W.cell? ⟨w.heap.size, 1, none⟩ = some (.int .i64 k) ∧ W.cell? ⟨w.heap.size, 2, none⟩ = some (.int .i64 a) ∧ W.cell? ⟨w.heap.size, 3, none⟩ = some (.int .i64 b) ∧ W.cell? ⟨w.heap.size, 4, none⟩ = some (.string T) ∧ W.cell? ⟨w.heap.size, 5, none⟩ = some (.string C) ∧ W.cell? ⟨w.heap.size, 6, none⟩ = some (.string N) ∧ W.cell? ⟨w.heap.size, 7, none⟩ = some (.string Y) ∧ W.cell? ⟨w.heap.size, 8, none⟩ = some (.slice ta n tc))) := fun W h => ⟨h, hcl.out _ _ _ h 0, hcl.out _ _ _ h 1, hcl.out _ _ _ h 2, hcl.out _ _ _ h 3, hcl.out _ _ _ h 4, hcl.out _ _ _ h 5, hcl.out _ _ _ h 6, hcl.out _ _ _ h 7, hcl.out _ _ _ h 8⟩
  have hS0 := hmk.out _ hwk.out
  clear hwk hcl c0 c1 c2 c3 c4 c5 c6 c7 c8
  go_region_held3 (fun W => Hid (Wrk w.heap.size (W2.alloc (.cells #[.string (mkS nm)] 9)) (.slice (some ⟨W2.heap.size, 0, none⟩) 1 1) [nm] (.slice (some ⟨W2.heap.size, 0, none⟩) 1 1) W) ∧ W.cell? ⟨w.heap.size, 0, none⟩ = some (.int .i64 30) ∧ W.cell? ⟨w.heap.size, 1, none⟩ = some (.int .i64 k) ∧ W.cell? ⟨w.heap.size, 2, none⟩ = some (.int .i64 a) ∧ W.cell? ⟨w.heap.size, 3, none⟩ = some (.int .i64 b) ∧ W.cell? ⟨w.heap.size, 4, none⟩ = some (.string T) ∧ W.cell? ⟨w.heap.size, 5, none⟩ = some (.string C) ∧ W.cell? ⟨w.heap.size, 6, none⟩ = some (.string N) ∧ W.cell? ⟨w.heap.size, 7, none⟩ = some (.string Y) ∧ W.cell? ⟨w.heap.size, 8, none⟩ = some (.slice ta n tc)) (first | assumption | exact hmk.out _ hkp.out | exact hmk.out _ (Wrk.call (Hid.out (And.left (by assumption))) hbq) | exact hmk.out _ (Wrk.alloc (Hid.out (And.left (by assumption))) _) | exact hmk.out _ (Wrk.drew (Hid.out (And.left (by assumption))))) (first
      | (refine wp_appN _ _ _ rfl w.heap.size (W2.alloc (.cells #[.string (mkS nm)] 9)) (.slice (some ⟨W2.heap.size, 0, none⟩) 1 1) (.slice (some ⟨W2.heap.size, 0, none⟩) 1 1) [nm] [Lib.itoa b, Lib.itoa a] 2 _ rfl rfl rfl (cellsN _ _ [Lib.itoa b, Lib.itoa a] _ _ rfl (by simp)) (Hid.out (And.left (by assumption))) (by simp) ?_; intro v' w' hvH hkp)
      | (go_at_call 32; refine (any32b a b _ _ h64 h64b (by first | exact .inl rfl | exact .inr rfl)).mono ?_; rintro e wq ⟨rfl, hbq⟩))
  all_goals (

    go_wp2_with fail
    go_loopw [3, 4] (fun wv iv wr => ∃ i : Nat, i ≤ n ∧ iv = .int .i64 i ∧ Hid (Wrk w.heap.size (W2.alloc (.cells #[.string (mkS nm)] 9)) (.slice (some ⟨W2.heap.size, 0, none⟩) 1 1) (([nm] ++ [Lib.itoa b, Lib.itoa a]) ++ (zs.take i).map Lib.itoa) wv wr)) (fun _ iv _ => n - (intOf iv).toNat)
    case atStart => exact ⟨0, by omega, rfl, by show Wrk _ _ _ _ _ _; simpa using hvH.out⟩
    case round =>
      obtain ⟨i, hi, rfl, hwr⟩ := hrel
      have z0 : wr.cell? ⟨w.heap.size, 0, none⟩ = some (.int .i64 30) := hclH.out _ _ _ hwr.out 0
      have z1 : wr.cell? ⟨w.heap.size, 1, none⟩ = some (.int .i64 k) := hclH.out _ _ _ hwr.out 1
      have z8 : wr.cell? ⟨w.heap.size, 8, none⟩ = some (.slice ta n tc) := hclH.out _ _ _ hwr.out 8
      by_cases hlt : i < n
      · have hi0 : (0 : Int) ≤ i := by omega
        have hi1 : (i : Int) < n := by omega
        have hltz : i < zs.length := by rw [← hnE.out]; exact hlt
        obtain ⟨g, hg, hcel⟩ := Tab.cells (htH.out wr (hB3H.out.trans hwr.out.below)) i hltz
        subst hg
        obtain ⟨z, hz⟩ : ∃ z, zs[i]'hltz = z := ⟨_, rfl⟩
        have h64z : Hid (B64 z) := by rw [← hz]; exact h64H.out _ (List.getElem_mem hltz)
        have hnx : Hid ((zs.take (i + 1)).map Lib.itoa = (zs.take i).map Lib.itoa ++ [Lib.itoa z]) := by
          show _ = _
          rw [List.take_succ_eq_append_getElem hltz, List.map_append, hz]; rfl
        rw [hz] at hcel
        clear hz hltz
        go_wp2_with (first
          | (go_at_call 32; refine (int_calls z _ h64z.out).mono ?_; rintro e Wn ⟨rfl, hbn⟩; have hwn : Hid (Wrk w.heap.size (W2.alloc (.cells #[.string (mkS nm)] 9)) (.slice (some ⟨W2.heap.size, 0, none⟩) 1 1) (([nm] ++ [Lib.itoa b, Lib.itoa a]) ++ (zs.take i).map Lib.itoa) u3 Wn) := hwr.out.call hbn; clear hbn)
          | (at_builtin; refine appN rfl _ _ _ rfl w.heap.size (W2.alloc (.cells #[.string (mkS nm)] 9)) (.slice (some ⟨W2.heap.size, 0, none⟩) 1 1) u3 (([nm] ++ [Lib.itoa b, Lib.itoa a]) ++ (zs.take i).map Lib.itoa) [Lib.itoa z] 1 _ rfl rfl rfl (cellsN _ _ [Lib.itoa z] _ _ rfl (by simp)) (hwn.out.alloc _) (by have := hnE.out; simp; omega) ?_; intro v'' w'' hv2))
        go_roundw
        case rel =>
          refine ⟨i + 1, by omega, by go_num, ?_⟩
          show Wrk _ _ _ _ _ _
          rw [hnx.out, ← List.append_assoc]
          exact hv2.out
        case measure => simp [intOf]; omega
      · have hin : i = n := by omega
        have hall : Hid ((zs.take i).map Lib.itoa = zs.map Lib.itoa) := by
          show _ = _
          rw [hin, hnE.out, List.take_length]
        go_wp2
        go_ret
        exact ⟨_, rfl, by rw [← hall.out]; exact hwr.out.words, hB3H.out.trans hwr.out.below⟩)

end Go.Proofs.YtcencddbdidjjaaGreatDoor
