/- spec.l1FloatAdd: what it answers. -/
import Derived.Test.YtjkmoggajpkdeaaRnd
import Derived.Deep.RegionHeld3
namespace Go.Proofs.Ytjkmoggajpkdeaa
set_option linter.unusedVariables false
open Go.ChangeShapes Go.WideShapes Go.ChangeAt Go.RowKit

/-- What spec.l1FloatAdd answers of two numbers. -/
def addFin (s : Bool) (X : Nat) (t : Bool) (Y : Nat) (b : Int) : Int :=
  if s = t then signedOf s ((rndOf (X + Y) b false : Nat) : Int)
  else if X < Y then signedOf t ((rndOf (Y - X) b false : Nat) : Int)
  else signedOf (s && decide (0 < X - Y)) ((rndOf (X - Y) b false : Nat) : Int)

theorem belowL {B : Nat} {a w : World} (h : Below B a.drew w) : Below B a w := ⟨h.os, h.tape, h.output, h.size, h.block⟩
theorem belowR {B : Nat} {a w : World} (h : Below B a w) : Below B a w.drew := ⟨h.os, h.tape, h.output, h.size, h.block⟩

theorem rowB_drew {w : World} {v : Value} {k M : Nat} (h : RowB w v k M) : RowB w.drew v k M := h
theorem keep1 {W W' : World} {p : Addr} {v : Value} (h : W.cell? p = some v) (hb : Below W.heap.size W W') : W'.cell? p = some v := by
  rw [hb.cell (p := p) (World.block_lt_of_cell? W p h)]; exact h

/-- Two floats taken apart, in two blocks from B on. -/
theorem keepAB {B : Nat} {s t : Bool} {m e n f : Int} {W W' : World}
    (h : W.cell? ⟨B, 0, none⟩ = some (.bool s) ∧ W.cell? ⟨B, 1, none⟩ = some (.int .i64 m) ∧ W.cell? ⟨B, 2, none⟩ = some (.int .i64 e) ∧ W.cell? ⟨B + 1, 0, none⟩ = some (.bool t) ∧ W.cell? ⟨B + 1, 1, none⟩ = some (.int .i64 n) ∧ W.cell? ⟨B + 1, 2, none⟩ = some (.int .i64 f))
    (hb : Below W.heap.size W W') :
    W'.cell? ⟨B, 0, none⟩ = some (.bool s) ∧ W'.cell? ⟨B, 1, none⟩ = some (.int .i64 m) ∧ W'.cell? ⟨B, 2, none⟩ = some (.int .i64 e) ∧ W'.cell? ⟨B + 1, 0, none⟩ = some (.bool t) ∧ W'.cell? ⟨B + 1, 1, none⟩ = some (.int .i64 n) ∧ W'.cell? ⟨B + 1, 2, none⟩ = some (.int .i64 f) := by
  obtain ⟨h1, h2, h3, h4, h5, h6⟩ := h
  have k : ∀ (p : Addr) (v : Value), W.cell? p = some v → W'.cell? p = some v := fun p v hv => by
    rw [hb.cell (p := p) (World.block_lt_of_cell? W p hv)]; exact hv
  exact ⟨k _ _ h1, k _ _ h2, k _ _ h3, k _ _ h4, k _ _ h5, k _ _ h6⟩

theorem startAB {s t : Bool} {m e n f c d : Int} {w W : World} (hW : W = (w.alloc (.cells #[.bool s, .int .i64 m, .int .i64 e, .int .i64 c] 26)).alloc (.cells #[.bool t, .int .i64 n, .int .i64 f, .int .i64 d] 26)) :
    W.cell? ⟨w.heap.size, 0, none⟩ = some (.bool s) ∧ W.cell? ⟨w.heap.size, 1, none⟩ = some (.int .i64 m) ∧ W.cell? ⟨w.heap.size, 2, none⟩ = some (.int .i64 e) ∧ W.cell? ⟨w.heap.size + 1, 0, none⟩ = some (.bool t) ∧ W.cell? ⟨w.heap.size + 1, 1, none⟩ = some (.int .i64 n) ∧ W.cell? ⟨w.heap.size + 1, 2, none⟩ = some (.int .i64 f) := by
  have h1 : W.heap[w.heap.size]? = some (.cells #[.bool s, .int .i64 m, .int .i64 e, .int .i64 c] 26) := by rw [hW]; exact heap_alloc2_old w _ _
  have h2 : W.heap[w.heap.size + 1]? = some (.cells #[.bool t, .int .i64 n, .int .i64 f, .int .i64 d] 26) := by
    have h := heap_alloc_last (w.alloc (.cells #[.bool s, .int .i64 m, .int .i64 e, .int .i64 c] 26)) (.cells #[.bool t, .int .i64 n, .int .i64 f, .int .i64 d] 26)
    rw [hW]
    simpa using h
  refine ⟨?_, ?_, ?_, ?_, ?_, ?_⟩
  · simp [World.cell?, h1]
  · simp [World.cell?, h1]
  · simp [World.cell?, h1]
  · simp [World.cell?, h2]
  · simp [World.cell?, h2]
  · simp [World.cell?, h2]

/-- Nothing is less than z where z is more than nothing. -/
theorem lessNil (g c : Nat) (z : Value) (k M : Nat) (bv : Bool) (hb : Hid (decide (0 < M) = bv)) (w : World) (hz : Row w z k M) :
    Calls Try.prog 18 #[.slice (some ⟨g, 0, none⟩) 0 c, z] w fun e w' => e = .returned (.bool bv) ∧ w' = w := by
  rw [← hb.out]
  exact less_calls _ z 0 k 0 M w ⟨by simp, by omega, .inr ⟨g, c, rfl, fun j hj => by omega⟩⟩ hz
set_option maxHeartbeats 2000000 in
theorem addLowPP (m n : Nat) (e f : Int) (hm : m < 9223372036854775808) (hn : n < 9223372036854775808) (he : -1074 ≤ e) (he2 : e ≤ 1000) (hf : -1074 ≤ f) (hf2 : f ≤ 1000) (hfe : f < e) (w : World) :
    Calls Try.prog 7 #[.agg (real false m e 0), .agg (real false n f 0)] w fun r w' => r = .returned (.int .i64 (addFin false (m * 2 ^ (e - f).toNat) false (n * 2 ^ (f - f).toNat) f)) ∧ Below w.heap.size w w' := by
  unfold real
  obtain ⟨X, hX⟩ : ∃ X, m * 2 ^ (e - f).toNat = X := ⟨_, rfl⟩
  obtain ⟨Y, hY⟩ : ∃ Y, n * 2 ^ (f - f).toNat = Y := ⟨_, rfl⟩
  rw [hX, hY]
  have hXH : Hid (m * 2 ^ (e - f).toNat = X) := hX
  have hYH : Hid (n * 2 ^ (f - f).toNat = Y) := hY
  clear hX hY
  go_enter Try.func7, Try.ntmps7
  go_wp2
  obtain ⟨W, hW⟩ : ∃ W : World, W = ((w.alloc (.cells #[.bool false, .int .i64 m, .int .i64 e, .int .i64 0] 26)).alloc (.cells #[.bool false, .int .i64 n, .int .i64 f, .int .i64 0] 26)) := ⟨_, rfl⟩
  rw [← hW]
  have hbW : Below w.heap.size w W := by rw [hW]; exact ((Below.refl _ _).alloc (Nat.le_refl _) _).alloc (by simp) _
  have hS := startAB hW
  obtain ⟨hS1, hS2, hS3, hS4, hS5, hS6⟩ := hS
  clear hW
  have hb0 : Below W.heap.size W W := Below.refl _ _
  go_region_held3 (fun W' => W'.cell? ⟨w.heap.size, 0, none⟩ = some (.bool false) ∧ W'.cell? ⟨w.heap.size, 1, none⟩ = some (.int .i64 m) ∧ W'.cell? ⟨w.heap.size, 2, none⟩ = some (.int .i64 e) ∧ W'.cell? ⟨w.heap.size + 1, 0, none⟩ = some (.bool false) ∧ W'.cell? ⟨w.heap.size + 1, 1, none⟩ = some (.int .i64 n) ∧ W'.cell? ⟨w.heap.size + 1, 2, none⟩ = some (.int .i64 f)) (first | go_keep | (refine keepAB (by assumption) (by assumption))) (first | (go_at_call 15; refine (bits_calls m hm _).mono ?_; rintro e1 w1 ⟨v1, k1, hk1, hz1, rfl, ho1, hb1⟩) | (go_at_call 14; refine (up_callsW v1 k1 m (e - f) (by omega) (by omega) _ (rowB_own hz1 (by omega) ho1)).mono ?_; rintro e2 w2 ⟨x, rfl, ho2, hb2⟩))
  have hB2 : Below w.heap.size w w2 := (hbW.trans ((belowL hb1).mono hbW.size)).trans (hb2.mono (Nat.le_trans hbW.size (belowL hb1).size))
  obtain ⟨K, hK⟩ : ∃ K, (e - f).toNat + k1 = K := ⟨_, rfl⟩
  rw [hK, hXH.out] at ho2
  have hx2 : RowB w2 x K X := rowB_own (by rw [← hXH.out, ← hK]; exact up_zero m k1 _ hz1) (by omega) ho2
  have hKl : K ≤ 3000 := by omega
  rename_i hHeld
  clear hS1 hS2 hS3 hS4 hS5 hS6
  obtain ⟨hS1, hS2, hS3, hS4, hS5, hS6⟩ := hHeld
  clear hb1 hb2 ho1 ho2 hz1 hk1 hK hb0 hbW
  have hxH : Hid (RowB w2 x K X) := hx2
  have hBH : Hid (Below w.heap.size w w2) := hB2
  clear hx2 hB2
  go_wp2
  go_region_held3 (fun W' => W'.cell? ⟨w.heap.size, 0, none⟩ = some (.bool false) ∧ W'.cell? ⟨w.heap.size, 1, none⟩ = some (.int .i64 m) ∧ W'.cell? ⟨w.heap.size, 2, none⟩ = some (.int .i64 e) ∧ W'.cell? ⟨w.heap.size + 1, 0, none⟩ = some (.bool false) ∧ W'.cell? ⟨w.heap.size + 1, 1, none⟩ = some (.int .i64 n) ∧ W'.cell? ⟨w.heap.size + 1, 2, none⟩ = some (.int .i64 f)) (first | go_keep | (refine keepAB (by assumption) (by assumption))) (first | (go_at_call 15; refine (bits_calls n hn _).mono ?_; rintro e1 w3 ⟨v2, k2, hk2, hz2, rfl, ho3, hb3⟩) | (go_at_call 14; refine (up_callsW v2 k2 n (0) (by omega) (by omega) _ (rowB_own hz2 (by omega) ho3)).mono ?_; rintro e2 w4 ⟨y, rfl, ho4, hb4⟩))
  have hb24 : Below w2.heap.size w2 w4 := (belowL hb3).trans (hb4.mono (belowL hb3).size)
  have hB4 : Below w.heap.size w w4 := hBH.out.trans (hb24.mono hBH.out.size)
  obtain ⟨L, hL⟩ : ∃ L, (f - f).toNat + k2 = L := ⟨_, rfl⟩
  rw [show (0 : Int).toNat = (f - f).toNat by simp] at ho4
  rw [hL, hYH.out] at ho4
  have hy4 : RowB w4 y L Y := rowB_own (by rw [← hYH.out, ← hL]; exact up_zero n k2 _ hz2) (by omega) ho4
  have hx4 : RowB w4 x K X := hxH.out.kept hb24
  have hLl : L ≤ 3000 := by omega
  rename_i hHeld
  clear hS1 hS2 hS3 hS4 hS5 hS6
  obtain ⟨hS1, hS2, hS3, hS4, hS5, hS6⟩ := hHeld
  clear hb3 hb4 ho3 ho4 hz2 hk2 hL hb24 hXH hYH hxH hBH
  have hxH : Hid (RowB w4 x K X) := hx4
  have hyH : Hid (RowB w4 y L Y) := hy4
  have hBH : Hid (Below w.heap.size w w4) := hB4
  clear hx4 hy4 hB4
  go_wp2
  go_region_held3 (fun W' => W'.cell? ⟨w.heap.size, 0, none⟩ = some (.bool false) ∧ W'.cell? ⟨w.heap.size, 1, none⟩ = some (.int .i64 m) ∧ W'.cell? ⟨w.heap.size, 2, none⟩ = some (.int .i64 e) ∧ W'.cell? ⟨w.heap.size + 1, 0, none⟩ = some (.bool false) ∧ W'.cell? ⟨w.heap.size + 1, 1, none⟩ = some (.int .i64 n) ∧ W'.cell? ⟨w.heap.size + 1, 2, none⟩ = some (.int .i64 f)) (first | go_keep | (refine keepAB (by assumption) (by assumption))) (first | (go_at_call 17; refine (sumAdd_calls x y K L X Y _ (rowB_drew hxH.out) (rowB_drew hyH.out)).mono ?_; rintro e3 w5 ⟨z, rfl, hz5, ho5, hb5⟩) | (go_at_call 16; refine (round_row _ _ z _ (X + Y) f _ (by omega) (by omega) (rowB_own hz5 (by omega) ho5)).mono ?_; rintro e4 w6 ⟨rfl, hw6⟩; subst w6))
  go_wp2
  go_ret
  exact ⟨by simp [addFin], hBH.out.trans ((belowL hb5).mono hBH.out.size)⟩
set_option maxHeartbeats 2000000 in
theorem addLowPM (m n : Nat) (e f : Int) (hm : m < 9223372036854775808) (hn : n < 9223372036854775808) (he : -1074 ≤ e) (he2 : e ≤ 1000) (hf : -1074 ≤ f) (hf2 : f ≤ 1000) (hfe : f < e) (w : World) :
    Calls Try.prog 7 #[.agg (real false m e 0), .agg (real true n f 0)] w fun r w' => r = .returned (.int .i64 (addFin false (m * 2 ^ (e - f).toNat) true (n * 2 ^ (f - f).toNat) f)) ∧ Below w.heap.size w w' := by
  unfold real
  obtain ⟨X, hX⟩ : ∃ X, m * 2 ^ (e - f).toNat = X := ⟨_, rfl⟩
  obtain ⟨Y, hY⟩ : ∃ Y, n * 2 ^ (f - f).toNat = Y := ⟨_, rfl⟩
  rw [hX, hY]
  have hXH : Hid (m * 2 ^ (e - f).toNat = X) := hX
  have hYH : Hid (n * 2 ^ (f - f).toNat = Y) := hY
  clear hX hY
  go_enter Try.func7, Try.ntmps7
  go_wp2
  obtain ⟨W, hW⟩ : ∃ W : World, W = ((w.alloc (.cells #[.bool false, .int .i64 m, .int .i64 e, .int .i64 0] 26)).alloc (.cells #[.bool true, .int .i64 n, .int .i64 f, .int .i64 0] 26)) := ⟨_, rfl⟩
  rw [← hW]
  have hbW : Below w.heap.size w W := by rw [hW]; exact ((Below.refl _ _).alloc (Nat.le_refl _) _).alloc (by simp) _
  have hS := startAB hW
  obtain ⟨hS1, hS2, hS3, hS4, hS5, hS6⟩ := hS
  clear hW
  have hb0 : Below W.heap.size W W := Below.refl _ _
  go_region_held3 (fun W' => W'.cell? ⟨w.heap.size, 0, none⟩ = some (.bool false) ∧ W'.cell? ⟨w.heap.size, 1, none⟩ = some (.int .i64 m) ∧ W'.cell? ⟨w.heap.size, 2, none⟩ = some (.int .i64 e) ∧ W'.cell? ⟨w.heap.size + 1, 0, none⟩ = some (.bool true) ∧ W'.cell? ⟨w.heap.size + 1, 1, none⟩ = some (.int .i64 n) ∧ W'.cell? ⟨w.heap.size + 1, 2, none⟩ = some (.int .i64 f)) (first | go_keep | (refine keepAB (by assumption) (by assumption))) (first | (go_at_call 15; refine (bits_calls m hm _).mono ?_; rintro e1 w1 ⟨v1, k1, hk1, hz1, rfl, ho1, hb1⟩) | (go_at_call 14; refine (up_callsW v1 k1 m (e - f) (by omega) (by omega) _ (rowB_own hz1 (by omega) ho1)).mono ?_; rintro e2 w2 ⟨x, rfl, ho2, hb2⟩))
  have hB2 : Below w.heap.size w w2 := (hbW.trans ((belowL hb1).mono hbW.size)).trans (hb2.mono (Nat.le_trans hbW.size (belowL hb1).size))
  obtain ⟨K, hK⟩ : ∃ K, (e - f).toNat + k1 = K := ⟨_, rfl⟩
  rw [hK, hXH.out] at ho2
  have hx2 : RowB w2 x K X := rowB_own (by rw [← hXH.out, ← hK]; exact up_zero m k1 _ hz1) (by omega) ho2
  have hKl : K ≤ 3000 := by omega
  rename_i hHeld
  clear hS1 hS2 hS3 hS4 hS5 hS6
  obtain ⟨hS1, hS2, hS3, hS4, hS5, hS6⟩ := hHeld
  clear hb1 hb2 ho1 ho2 hz1 hk1 hK hb0 hbW
  have hxH : Hid (RowB w2 x K X) := hx2
  have hBH : Hid (Below w.heap.size w w2) := hB2
  clear hx2 hB2
  go_wp2
  go_region_held3 (fun W' => W'.cell? ⟨w.heap.size, 0, none⟩ = some (.bool false) ∧ W'.cell? ⟨w.heap.size, 1, none⟩ = some (.int .i64 m) ∧ W'.cell? ⟨w.heap.size, 2, none⟩ = some (.int .i64 e) ∧ W'.cell? ⟨w.heap.size + 1, 0, none⟩ = some (.bool true) ∧ W'.cell? ⟨w.heap.size + 1, 1, none⟩ = some (.int .i64 n) ∧ W'.cell? ⟨w.heap.size + 1, 2, none⟩ = some (.int .i64 f)) (first | go_keep | (refine keepAB (by assumption) (by assumption))) (first | (go_at_call 15; refine (bits_calls n hn _).mono ?_; rintro e1 w3 ⟨v2, k2, hk2, hz2, rfl, ho3, hb3⟩) | (go_at_call 14; refine (up_callsW v2 k2 n (0) (by omega) (by omega) _ (rowB_own hz2 (by omega) ho3)).mono ?_; rintro e2 w4 ⟨y, rfl, ho4, hb4⟩))
  have hb24 : Below w2.heap.size w2 w4 := (belowL hb3).trans (hb4.mono (belowL hb3).size)
  have hB4 : Below w.heap.size w w4 := hBH.out.trans (hb24.mono hBH.out.size)
  obtain ⟨L, hL⟩ : ∃ L, (f - f).toNat + k2 = L := ⟨_, rfl⟩
  rw [show (0 : Int).toNat = (f - f).toNat by simp] at ho4
  rw [hL, hYH.out] at ho4
  have hy4 : RowB w4 y L Y := rowB_own (by rw [← hYH.out, ← hL]; exact up_zero n k2 _ hz2) (by omega) ho4
  have hx4 : RowB w4 x K X := hxH.out.kept hb24
  have hLl : L ≤ 3000 := by omega
  rename_i hHeld
  clear hS1 hS2 hS3 hS4 hS5 hS6
  obtain ⟨hS1, hS2, hS3, hS4, hS5, hS6⟩ := hHeld
  clear hb3 hb4 ho3 ho4 hz2 hk2 hL hb24 hXH hYH hxH hBH
  have hxH : Hid (RowB w4 x K X) := hx4
  have hyH : Hid (RowB w4 y L Y) := hy4
  have hBH : Hid (Below w.heap.size w w4) := hB4
  clear hx4 hy4 hB4
  by_cases hXY : X < Y
  · go_wp2_with (go_at_call_of 18 x; refine (less_calls x y K L X Y _ hxH.out.1 hyH.out.1).mono ?_; rintro e w' ⟨rfl, he⟩; subst w')
    go_region_held3 (fun W' => W'.cell? ⟨w.heap.size, 0, none⟩ = some (.bool false) ∧ W'.cell? ⟨w.heap.size, 1, none⟩ = some (.int .i64 m) ∧ W'.cell? ⟨w.heap.size, 2, none⟩ = some (.int .i64 e) ∧ W'.cell? ⟨w.heap.size + 1, 0, none⟩ = some (.bool true) ∧ W'.cell? ⟨w.heap.size + 1, 1, none⟩ = some (.int .i64 n) ∧ W'.cell? ⟨w.heap.size + 1, 2, none⟩ = some (.int .i64 f)) (first | go_keep | (refine keepAB (by assumption) (by assumption))) (first | (go_at_call 17; refine (sumSub_calls y x L K Y X _ (rowB_drew hyH.out) (rowB_drew hxH.out) (Nat.le_of_lt hXY)).mono ?_; rintro e3 w5 ⟨z, rfl, hz5, ho5, hb5⟩) | (go_at_call 16; refine (round_row _ _ z _ (Y - X) f _ (by omega) (by omega) (rowB_own hz5 (by omega) ho5)).mono ?_; rintro e4 w6 ⟨rfl, hw6⟩; subst w6))
    go_wp2
    go_ret
    exact ⟨by simp [addFin, hXY], hBH.out.trans ((belowL hb5).mono hBH.out.size)⟩
  · go_wp2_with (first | (go_at_call_of 18 x; refine (less_calls x y K L X Y _ hxH.out.1 hyH.out.1).mono ?_; rintro e w' ⟨rfl, he⟩; subst w') | (go_at_call 17; refine (sumSub_calls x y K L X Y _ hxH.out hyH.out (Nat.le_of_not_lt hXY)).mono ?_; rintro e3 w5 ⟨z, rfl, hz5, ho5, hb5⟩; have hT1 := keep1 hS1 hb5) | (go_at_call 16; refine (round_row _ _ z _ (X - Y) f _ (by omega) (by omega) (rowB_own hz5 (by omega) ho5)).mono ?_; rintro e4 w6 ⟨rfl, hw6⟩; subst w6))
    go_ret
    exact ⟨by simp [addFin, hXY], hBH.out.trans (hb5.mono hBH.out.size)⟩
set_option maxHeartbeats 2000000 in
theorem addLowMP (m n : Nat) (e f : Int) (hm : m < 9223372036854775808) (hn : n < 9223372036854775808) (he : -1074 ≤ e) (he2 : e ≤ 1000) (hf : -1074 ≤ f) (hf2 : f ≤ 1000) (hfe : f < e) (w : World) :
    Calls Try.prog 7 #[.agg (real true m e 0), .agg (real false n f 0)] w fun r w' => r = .returned (.int .i64 (addFin true (m * 2 ^ (e - f).toNat) false (n * 2 ^ (f - f).toNat) f)) ∧ Below w.heap.size w w' := by
  unfold real
  obtain ⟨X, hX⟩ : ∃ X, m * 2 ^ (e - f).toNat = X := ⟨_, rfl⟩
  obtain ⟨Y, hY⟩ : ∃ Y, n * 2 ^ (f - f).toNat = Y := ⟨_, rfl⟩
  rw [hX, hY]
  have hXH : Hid (m * 2 ^ (e - f).toNat = X) := hX
  have hYH : Hid (n * 2 ^ (f - f).toNat = Y) := hY
  clear hX hY
  go_enter Try.func7, Try.ntmps7
  go_wp2
  obtain ⟨W, hW⟩ : ∃ W : World, W = ((w.alloc (.cells #[.bool true, .int .i64 m, .int .i64 e, .int .i64 0] 26)).alloc (.cells #[.bool false, .int .i64 n, .int .i64 f, .int .i64 0] 26)) := ⟨_, rfl⟩
  rw [← hW]
  have hbW : Below w.heap.size w W := by rw [hW]; exact ((Below.refl _ _).alloc (Nat.le_refl _) _).alloc (by simp) _
  have hS := startAB hW
  obtain ⟨hS1, hS2, hS3, hS4, hS5, hS6⟩ := hS
  clear hW
  have hb0 : Below W.heap.size W W := Below.refl _ _
  go_region_held3 (fun W' => W'.cell? ⟨w.heap.size, 0, none⟩ = some (.bool true) ∧ W'.cell? ⟨w.heap.size, 1, none⟩ = some (.int .i64 m) ∧ W'.cell? ⟨w.heap.size, 2, none⟩ = some (.int .i64 e) ∧ W'.cell? ⟨w.heap.size + 1, 0, none⟩ = some (.bool false) ∧ W'.cell? ⟨w.heap.size + 1, 1, none⟩ = some (.int .i64 n) ∧ W'.cell? ⟨w.heap.size + 1, 2, none⟩ = some (.int .i64 f)) (first | go_keep | (refine keepAB (by assumption) (by assumption))) (first | (go_at_call 15; refine (bits_calls m hm _).mono ?_; rintro e1 w1 ⟨v1, k1, hk1, hz1, rfl, ho1, hb1⟩) | (go_at_call 14; refine (up_callsW v1 k1 m (e - f) (by omega) (by omega) _ (rowB_own hz1 (by omega) ho1)).mono ?_; rintro e2 w2 ⟨x, rfl, ho2, hb2⟩))
  have hB2 : Below w.heap.size w w2 := (hbW.trans ((belowL hb1).mono hbW.size)).trans (hb2.mono (Nat.le_trans hbW.size (belowL hb1).size))
  obtain ⟨K, hK⟩ : ∃ K, (e - f).toNat + k1 = K := ⟨_, rfl⟩
  rw [hK, hXH.out] at ho2
  have hx2 : RowB w2 x K X := rowB_own (by rw [← hXH.out, ← hK]; exact up_zero m k1 _ hz1) (by omega) ho2
  have hKl : K ≤ 3000 := by omega
  rename_i hHeld
  clear hS1 hS2 hS3 hS4 hS5 hS6
  obtain ⟨hS1, hS2, hS3, hS4, hS5, hS6⟩ := hHeld
  clear hb1 hb2 ho1 ho2 hz1 hk1 hK hb0 hbW
  have hxH : Hid (RowB w2 x K X) := hx2
  have hBH : Hid (Below w.heap.size w w2) := hB2
  clear hx2 hB2
  go_wp2
  go_region_held3 (fun W' => W'.cell? ⟨w.heap.size, 0, none⟩ = some (.bool true) ∧ W'.cell? ⟨w.heap.size, 1, none⟩ = some (.int .i64 m) ∧ W'.cell? ⟨w.heap.size, 2, none⟩ = some (.int .i64 e) ∧ W'.cell? ⟨w.heap.size + 1, 0, none⟩ = some (.bool false) ∧ W'.cell? ⟨w.heap.size + 1, 1, none⟩ = some (.int .i64 n) ∧ W'.cell? ⟨w.heap.size + 1, 2, none⟩ = some (.int .i64 f)) (first | go_keep | (refine keepAB (by assumption) (by assumption))) (first | (go_at_call 15; refine (bits_calls n hn _).mono ?_; rintro e1 w3 ⟨v2, k2, hk2, hz2, rfl, ho3, hb3⟩) | (go_at_call 14; refine (up_callsW v2 k2 n (0) (by omega) (by omega) _ (rowB_own hz2 (by omega) ho3)).mono ?_; rintro e2 w4 ⟨y, rfl, ho4, hb4⟩))
  have hb24 : Below w2.heap.size w2 w4 := (belowL hb3).trans (hb4.mono (belowL hb3).size)
  have hB4 : Below w.heap.size w w4 := hBH.out.trans (hb24.mono hBH.out.size)
  obtain ⟨L, hL⟩ : ∃ L, (f - f).toNat + k2 = L := ⟨_, rfl⟩
  rw [show (0 : Int).toNat = (f - f).toNat by simp] at ho4
  rw [hL, hYH.out] at ho4
  have hy4 : RowB w4 y L Y := rowB_own (by rw [← hYH.out, ← hL]; exact up_zero n k2 _ hz2) (by omega) ho4
  have hx4 : RowB w4 x K X := hxH.out.kept hb24
  have hLl : L ≤ 3000 := by omega
  rename_i hHeld
  clear hS1 hS2 hS3 hS4 hS5 hS6
  obtain ⟨hS1, hS2, hS3, hS4, hS5, hS6⟩ := hHeld
  clear hb3 hb4 ho3 ho4 hz2 hk2 hL hb24 hXH hYH hxH hBH
  have hxH : Hid (RowB w4 x K X) := hx4
  have hyH : Hid (RowB w4 y L Y) := hy4
  have hBH : Hid (Below w.heap.size w w4) := hB4
  clear hx4 hy4 hB4
  by_cases hXY : X < Y
  · go_wp2_with (go_at_call_of 18 x; refine (less_calls x y K L X Y _ hxH.out.1 hyH.out.1).mono ?_; rintro e w' ⟨rfl, he⟩; subst w')
    go_region_held3 (fun W' => W'.cell? ⟨w.heap.size, 0, none⟩ = some (.bool true) ∧ W'.cell? ⟨w.heap.size, 1, none⟩ = some (.int .i64 m) ∧ W'.cell? ⟨w.heap.size, 2, none⟩ = some (.int .i64 e) ∧ W'.cell? ⟨w.heap.size + 1, 0, none⟩ = some (.bool false) ∧ W'.cell? ⟨w.heap.size + 1, 1, none⟩ = some (.int .i64 n) ∧ W'.cell? ⟨w.heap.size + 1, 2, none⟩ = some (.int .i64 f)) (first | go_keep | (refine keepAB (by assumption) (by assumption))) (first | (go_at_call 17; refine (sumSub_calls y x L K Y X _ (rowB_drew hyH.out) (rowB_drew hxH.out) (Nat.le_of_lt hXY)).mono ?_; rintro e3 w5 ⟨z, rfl, hz5, ho5, hb5⟩) | (go_at_call 16; refine (round_row _ _ z _ (Y - X) f _ (by omega) (by omega) (rowB_own hz5 (by omega) ho5)).mono ?_; rintro e4 w6 ⟨rfl, hw6⟩; subst w6))
    go_wp2
    go_ret
    exact ⟨by simp [addFin, hXY], hBH.out.trans ((belowL hb5).mono hBH.out.size)⟩
  · obtain ⟨bv, hbv⟩ : ∃ bv, decide (0 < X - Y) = bv := ⟨_, rfl⟩
    have hbvH : Hid (decide (0 < X - Y) = bv) := hbv
    clear hbv
    have hmx : max L K + 1 ≤ 20000 := by omega
    go_wp2_with (first | (go_at_call_of 18 x; refine (less_calls x y K L X Y _ hxH.out.1 hyH.out.1).mono ?_; rintro e w' ⟨rfl, he⟩; subst w') | (go_at_call 17; refine (sumSub_calls x y K L X Y _ hxH.out hyH.out (Nat.le_of_not_lt hXY)).mono ?_; rintro e3 w5 ⟨z, rfl, hz5, ho5, hb5⟩; have hT1 := keep1 hS1 hb5) | (go_at_call 18; refine (lessNil _ _ z _ (X - Y) bv hbvH _ ((rowB_own hz5 (by omega) ho5).kept ((Below.refl _ _).alloc (Nat.le_refl _) _)).1).mono ?_; rintro e w' ⟨rfl, he⟩; subst w') | (go_at_call 16; refine (round_row _ _ z _ (X - Y) f _ (by omega) (by omega) ((rowB_own hz5 (by omega) ho5).kept ((Below.refl _ _).alloc (Nat.le_refl _) _))).mono ?_; rintro e4 w6 ⟨rfl, hw6⟩; subst w6))
    go_ret
    exact ⟨by simp [addFin, hXY, hbvH.out], hBH.out.trans ((hb5.mono hBH.out.size).alloc (Nat.le_trans hBH.out.size hb5.size) _)⟩
set_option maxHeartbeats 2000000 in
theorem addLowMM (m n : Nat) (e f : Int) (hm : m < 9223372036854775808) (hn : n < 9223372036854775808) (he : -1074 ≤ e) (he2 : e ≤ 1000) (hf : -1074 ≤ f) (hf2 : f ≤ 1000) (hfe : f < e) (w : World) :
    Calls Try.prog 7 #[.agg (real true m e 0), .agg (real true n f 0)] w fun r w' => r = .returned (.int .i64 (addFin true (m * 2 ^ (e - f).toNat) true (n * 2 ^ (f - f).toNat) f)) ∧ Below w.heap.size w w' := by
  unfold real
  obtain ⟨X, hX⟩ : ∃ X, m * 2 ^ (e - f).toNat = X := ⟨_, rfl⟩
  obtain ⟨Y, hY⟩ : ∃ Y, n * 2 ^ (f - f).toNat = Y := ⟨_, rfl⟩
  rw [hX, hY]
  have hXH : Hid (m * 2 ^ (e - f).toNat = X) := hX
  have hYH : Hid (n * 2 ^ (f - f).toNat = Y) := hY
  clear hX hY
  go_enter Try.func7, Try.ntmps7
  go_wp2
  obtain ⟨W, hW⟩ : ∃ W : World, W = ((w.alloc (.cells #[.bool true, .int .i64 m, .int .i64 e, .int .i64 0] 26)).alloc (.cells #[.bool true, .int .i64 n, .int .i64 f, .int .i64 0] 26)) := ⟨_, rfl⟩
  rw [← hW]
  have hbW : Below w.heap.size w W := by rw [hW]; exact ((Below.refl _ _).alloc (Nat.le_refl _) _).alloc (by simp) _
  have hS := startAB hW
  obtain ⟨hS1, hS2, hS3, hS4, hS5, hS6⟩ := hS
  clear hW
  have hb0 : Below W.heap.size W W := Below.refl _ _
  go_region_held3 (fun W' => W'.cell? ⟨w.heap.size, 0, none⟩ = some (.bool true) ∧ W'.cell? ⟨w.heap.size, 1, none⟩ = some (.int .i64 m) ∧ W'.cell? ⟨w.heap.size, 2, none⟩ = some (.int .i64 e) ∧ W'.cell? ⟨w.heap.size + 1, 0, none⟩ = some (.bool true) ∧ W'.cell? ⟨w.heap.size + 1, 1, none⟩ = some (.int .i64 n) ∧ W'.cell? ⟨w.heap.size + 1, 2, none⟩ = some (.int .i64 f)) (first | go_keep | (refine keepAB (by assumption) (by assumption))) (first | (go_at_call 15; refine (bits_calls m hm _).mono ?_; rintro e1 w1 ⟨v1, k1, hk1, hz1, rfl, ho1, hb1⟩) | (go_at_call 14; refine (up_callsW v1 k1 m (e - f) (by omega) (by omega) _ (rowB_own hz1 (by omega) ho1)).mono ?_; rintro e2 w2 ⟨x, rfl, ho2, hb2⟩))
  have hB2 : Below w.heap.size w w2 := (hbW.trans ((belowL hb1).mono hbW.size)).trans (hb2.mono (Nat.le_trans hbW.size (belowL hb1).size))
  obtain ⟨K, hK⟩ : ∃ K, (e - f).toNat + k1 = K := ⟨_, rfl⟩
  rw [hK, hXH.out] at ho2
  have hx2 : RowB w2 x K X := rowB_own (by rw [← hXH.out, ← hK]; exact up_zero m k1 _ hz1) (by omega) ho2
  have hKl : K ≤ 3000 := by omega
  rename_i hHeld
  clear hS1 hS2 hS3 hS4 hS5 hS6
  obtain ⟨hS1, hS2, hS3, hS4, hS5, hS6⟩ := hHeld
  clear hb1 hb2 ho1 ho2 hz1 hk1 hK hb0 hbW
  have hxH : Hid (RowB w2 x K X) := hx2
  have hBH : Hid (Below w.heap.size w w2) := hB2
  clear hx2 hB2
  go_wp2
  go_region_held3 (fun W' => W'.cell? ⟨w.heap.size, 0, none⟩ = some (.bool true) ∧ W'.cell? ⟨w.heap.size, 1, none⟩ = some (.int .i64 m) ∧ W'.cell? ⟨w.heap.size, 2, none⟩ = some (.int .i64 e) ∧ W'.cell? ⟨w.heap.size + 1, 0, none⟩ = some (.bool true) ∧ W'.cell? ⟨w.heap.size + 1, 1, none⟩ = some (.int .i64 n) ∧ W'.cell? ⟨w.heap.size + 1, 2, none⟩ = some (.int .i64 f)) (first | go_keep | (refine keepAB (by assumption) (by assumption))) (first | (go_at_call 15; refine (bits_calls n hn _).mono ?_; rintro e1 w3 ⟨v2, k2, hk2, hz2, rfl, ho3, hb3⟩) | (go_at_call 14; refine (up_callsW v2 k2 n (0) (by omega) (by omega) _ (rowB_own hz2 (by omega) ho3)).mono ?_; rintro e2 w4 ⟨y, rfl, ho4, hb4⟩))
  have hb24 : Below w2.heap.size w2 w4 := (belowL hb3).trans (hb4.mono (belowL hb3).size)
  have hB4 : Below w.heap.size w w4 := hBH.out.trans (hb24.mono hBH.out.size)
  obtain ⟨L, hL⟩ : ∃ L, (f - f).toNat + k2 = L := ⟨_, rfl⟩
  rw [show (0 : Int).toNat = (f - f).toNat by simp] at ho4
  rw [hL, hYH.out] at ho4
  have hy4 : RowB w4 y L Y := rowB_own (by rw [← hYH.out, ← hL]; exact up_zero n k2 _ hz2) (by omega) ho4
  have hx4 : RowB w4 x K X := hxH.out.kept hb24
  have hLl : L ≤ 3000 := by omega
  rename_i hHeld
  clear hS1 hS2 hS3 hS4 hS5 hS6
  obtain ⟨hS1, hS2, hS3, hS4, hS5, hS6⟩ := hHeld
  clear hb3 hb4 ho3 ho4 hz2 hk2 hL hb24 hXH hYH hxH hBH
  have hxH : Hid (RowB w4 x K X) := hx4
  have hyH : Hid (RowB w4 y L Y) := hy4
  have hBH : Hid (Below w.heap.size w w4) := hB4
  clear hx4 hy4 hB4
  go_wp2
  go_region_held3 (fun W' => W'.cell? ⟨w.heap.size, 0, none⟩ = some (.bool true) ∧ W'.cell? ⟨w.heap.size, 1, none⟩ = some (.int .i64 m) ∧ W'.cell? ⟨w.heap.size, 2, none⟩ = some (.int .i64 e) ∧ W'.cell? ⟨w.heap.size + 1, 0, none⟩ = some (.bool true) ∧ W'.cell? ⟨w.heap.size + 1, 1, none⟩ = some (.int .i64 n) ∧ W'.cell? ⟨w.heap.size + 1, 2, none⟩ = some (.int .i64 f)) (first | go_keep | (refine keepAB (by assumption) (by assumption))) (first | (go_at_call 17; refine (sumAdd_calls x y K L X Y _ (rowB_drew hxH.out) (rowB_drew hyH.out)).mono ?_; rintro e3 w5 ⟨z, rfl, hz5, ho5, hb5⟩) | (go_at_call 16; refine (round_row _ _ z _ (X + Y) f _ (by omega) (by omega) (rowB_own hz5 (by omega) ho5)).mono ?_; rintro e4 w6 ⟨rfl, hw6⟩; subst w6))
  go_wp2
  go_ret
  exact ⟨by simp [addFin], hBH.out.trans ((belowL hb5).mono hBH.out.size)⟩
set_option maxHeartbeats 2000000 in
theorem addHighPP (m n : Nat) (e f : Int) (hm : m < 9223372036854775808) (hn : n < 9223372036854775808) (he : -1074 ≤ e) (he2 : e ≤ 1000) (hf : -1074 ≤ f) (hf2 : f ≤ 1000) (hfe : ¬ f < e) (w : World) :
    Calls Try.prog 7 #[.agg (real false m e 0), .agg (real false n f 0)] w fun r w' => r = .returned (.int .i64 (addFin false (m * 2 ^ (e - e).toNat) false (n * 2 ^ (f - e).toNat) e)) ∧ Below w.heap.size w w' := by
  unfold real
  obtain ⟨X, hX⟩ : ∃ X, m * 2 ^ (e - e).toNat = X := ⟨_, rfl⟩
  obtain ⟨Y, hY⟩ : ∃ Y, n * 2 ^ (f - e).toNat = Y := ⟨_, rfl⟩
  rw [hX, hY]
  have hXH : Hid (m * 2 ^ (e - e).toNat = X) := hX
  have hYH : Hid (n * 2 ^ (f - e).toNat = Y) := hY
  clear hX hY
  go_enter Try.func7, Try.ntmps7
  go_wp2
  obtain ⟨W, hW⟩ : ∃ W : World, W = ((w.alloc (.cells #[.bool false, .int .i64 m, .int .i64 e, .int .i64 0] 26)).alloc (.cells #[.bool false, .int .i64 n, .int .i64 f, .int .i64 0] 26)) := ⟨_, rfl⟩
  rw [← hW]
  have hbW : Below w.heap.size w W := by rw [hW]; exact ((Below.refl _ _).alloc (Nat.le_refl _) _).alloc (by simp) _
  have hS := startAB hW
  obtain ⟨hS1, hS2, hS3, hS4, hS5, hS6⟩ := hS
  clear hW
  have hb0 : Below W.heap.size W W := Below.refl _ _
  go_region_held3 (fun W' => W'.cell? ⟨w.heap.size, 0, none⟩ = some (.bool false) ∧ W'.cell? ⟨w.heap.size, 1, none⟩ = some (.int .i64 m) ∧ W'.cell? ⟨w.heap.size, 2, none⟩ = some (.int .i64 e) ∧ W'.cell? ⟨w.heap.size + 1, 0, none⟩ = some (.bool false) ∧ W'.cell? ⟨w.heap.size + 1, 1, none⟩ = some (.int .i64 n) ∧ W'.cell? ⟨w.heap.size + 1, 2, none⟩ = some (.int .i64 f)) (first | go_keep | (refine keepAB (by assumption) (by assumption))) (first | (go_at_call 15; refine (bits_calls m hm _).mono ?_; rintro e1 w1 ⟨v1, k1, hk1, hz1, rfl, ho1, hb1⟩) | (go_at_call 14; refine (up_callsW v1 k1 m (0) (by omega) (by omega) _ (rowB_own hz1 (by omega) ho1)).mono ?_; rintro e2 w2 ⟨x, rfl, ho2, hb2⟩))
  have hB2 : Below w.heap.size w w2 := (hbW.trans ((belowL hb1).mono hbW.size)).trans (hb2.mono (Nat.le_trans hbW.size (belowL hb1).size))
  obtain ⟨K, hK⟩ : ∃ K, (e - e).toNat + k1 = K := ⟨_, rfl⟩
  rw [show (0 : Int).toNat = (e - e).toNat by simp] at ho2
  rw [hK, hXH.out] at ho2
  have hx2 : RowB w2 x K X := rowB_own (by rw [← hXH.out, ← hK]; exact up_zero m k1 _ hz1) (by omega) ho2
  have hKl : K ≤ 3000 := by omega
  rename_i hHeld
  clear hS1 hS2 hS3 hS4 hS5 hS6
  obtain ⟨hS1, hS2, hS3, hS4, hS5, hS6⟩ := hHeld
  clear hb1 hb2 ho1 ho2 hz1 hk1 hK hb0 hbW
  have hxH : Hid (RowB w2 x K X) := hx2
  have hBH : Hid (Below w.heap.size w w2) := hB2
  clear hx2 hB2
  go_wp2
  go_region_held3 (fun W' => W'.cell? ⟨w.heap.size, 0, none⟩ = some (.bool false) ∧ W'.cell? ⟨w.heap.size, 1, none⟩ = some (.int .i64 m) ∧ W'.cell? ⟨w.heap.size, 2, none⟩ = some (.int .i64 e) ∧ W'.cell? ⟨w.heap.size + 1, 0, none⟩ = some (.bool false) ∧ W'.cell? ⟨w.heap.size + 1, 1, none⟩ = some (.int .i64 n) ∧ W'.cell? ⟨w.heap.size + 1, 2, none⟩ = some (.int .i64 f)) (first | go_keep | (refine keepAB (by assumption) (by assumption))) (first | (go_at_call 15; refine (bits_calls n hn _).mono ?_; rintro e1 w3 ⟨v2, k2, hk2, hz2, rfl, ho3, hb3⟩) | (go_at_call 14; refine (up_callsW v2 k2 n (f - e) (by omega) (by omega) _ (rowB_own hz2 (by omega) ho3)).mono ?_; rintro e2 w4 ⟨y, rfl, ho4, hb4⟩))
  have hb24 : Below w2.heap.size w2 w4 := (belowL hb3).trans (hb4.mono (belowL hb3).size)
  have hB4 : Below w.heap.size w w4 := hBH.out.trans (hb24.mono hBH.out.size)
  obtain ⟨L, hL⟩ : ∃ L, (f - e).toNat + k2 = L := ⟨_, rfl⟩
  rw [hL, hYH.out] at ho4
  have hy4 : RowB w4 y L Y := rowB_own (by rw [← hYH.out, ← hL]; exact up_zero n k2 _ hz2) (by omega) ho4
  have hx4 : RowB w4 x K X := hxH.out.kept hb24
  have hLl : L ≤ 3000 := by omega
  rename_i hHeld
  clear hS1 hS2 hS3 hS4 hS5 hS6
  obtain ⟨hS1, hS2, hS3, hS4, hS5, hS6⟩ := hHeld
  clear hb3 hb4 ho3 ho4 hz2 hk2 hL hb24 hXH hYH hxH hBH
  have hxH : Hid (RowB w4 x K X) := hx4
  have hyH : Hid (RowB w4 y L Y) := hy4
  have hBH : Hid (Below w.heap.size w w4) := hB4
  clear hx4 hy4 hB4
  go_wp2
  go_region_held3 (fun W' => W'.cell? ⟨w.heap.size, 0, none⟩ = some (.bool false) ∧ W'.cell? ⟨w.heap.size, 1, none⟩ = some (.int .i64 m) ∧ W'.cell? ⟨w.heap.size, 2, none⟩ = some (.int .i64 e) ∧ W'.cell? ⟨w.heap.size + 1, 0, none⟩ = some (.bool false) ∧ W'.cell? ⟨w.heap.size + 1, 1, none⟩ = some (.int .i64 n) ∧ W'.cell? ⟨w.heap.size + 1, 2, none⟩ = some (.int .i64 f)) (first | go_keep | (refine keepAB (by assumption) (by assumption))) (first | (go_at_call 17; refine (sumAdd_calls x y K L X Y _ (rowB_drew hxH.out) (rowB_drew hyH.out)).mono ?_; rintro e3 w5 ⟨z, rfl, hz5, ho5, hb5⟩) | (go_at_call 16; refine (round_row _ _ z _ (X + Y) e _ (by omega) (by omega) (rowB_own hz5 (by omega) ho5)).mono ?_; rintro e4 w6 ⟨rfl, hw6⟩; subst w6))
  go_wp2
  go_ret
  exact ⟨by simp [addFin], hBH.out.trans ((belowL hb5).mono hBH.out.size)⟩
set_option maxHeartbeats 2000000 in
theorem addHighPM (m n : Nat) (e f : Int) (hm : m < 9223372036854775808) (hn : n < 9223372036854775808) (he : -1074 ≤ e) (he2 : e ≤ 1000) (hf : -1074 ≤ f) (hf2 : f ≤ 1000) (hfe : ¬ f < e) (w : World) :
    Calls Try.prog 7 #[.agg (real false m e 0), .agg (real true n f 0)] w fun r w' => r = .returned (.int .i64 (addFin false (m * 2 ^ (e - e).toNat) true (n * 2 ^ (f - e).toNat) e)) ∧ Below w.heap.size w w' := by
  unfold real
  obtain ⟨X, hX⟩ : ∃ X, m * 2 ^ (e - e).toNat = X := ⟨_, rfl⟩
  obtain ⟨Y, hY⟩ : ∃ Y, n * 2 ^ (f - e).toNat = Y := ⟨_, rfl⟩
  rw [hX, hY]
  have hXH : Hid (m * 2 ^ (e - e).toNat = X) := hX
  have hYH : Hid (n * 2 ^ (f - e).toNat = Y) := hY
  clear hX hY
  go_enter Try.func7, Try.ntmps7
  go_wp2
  obtain ⟨W, hW⟩ : ∃ W : World, W = ((w.alloc (.cells #[.bool false, .int .i64 m, .int .i64 e, .int .i64 0] 26)).alloc (.cells #[.bool true, .int .i64 n, .int .i64 f, .int .i64 0] 26)) := ⟨_, rfl⟩
  rw [← hW]
  have hbW : Below w.heap.size w W := by rw [hW]; exact ((Below.refl _ _).alloc (Nat.le_refl _) _).alloc (by simp) _
  have hS := startAB hW
  obtain ⟨hS1, hS2, hS3, hS4, hS5, hS6⟩ := hS
  clear hW
  have hb0 : Below W.heap.size W W := Below.refl _ _
  go_region_held3 (fun W' => W'.cell? ⟨w.heap.size, 0, none⟩ = some (.bool false) ∧ W'.cell? ⟨w.heap.size, 1, none⟩ = some (.int .i64 m) ∧ W'.cell? ⟨w.heap.size, 2, none⟩ = some (.int .i64 e) ∧ W'.cell? ⟨w.heap.size + 1, 0, none⟩ = some (.bool true) ∧ W'.cell? ⟨w.heap.size + 1, 1, none⟩ = some (.int .i64 n) ∧ W'.cell? ⟨w.heap.size + 1, 2, none⟩ = some (.int .i64 f)) (first | go_keep | (refine keepAB (by assumption) (by assumption))) (first | (go_at_call 15; refine (bits_calls m hm _).mono ?_; rintro e1 w1 ⟨v1, k1, hk1, hz1, rfl, ho1, hb1⟩) | (go_at_call 14; refine (up_callsW v1 k1 m (0) (by omega) (by omega) _ (rowB_own hz1 (by omega) ho1)).mono ?_; rintro e2 w2 ⟨x, rfl, ho2, hb2⟩))
  have hB2 : Below w.heap.size w w2 := (hbW.trans ((belowL hb1).mono hbW.size)).trans (hb2.mono (Nat.le_trans hbW.size (belowL hb1).size))
  obtain ⟨K, hK⟩ : ∃ K, (e - e).toNat + k1 = K := ⟨_, rfl⟩
  rw [show (0 : Int).toNat = (e - e).toNat by simp] at ho2
  rw [hK, hXH.out] at ho2
  have hx2 : RowB w2 x K X := rowB_own (by rw [← hXH.out, ← hK]; exact up_zero m k1 _ hz1) (by omega) ho2
  have hKl : K ≤ 3000 := by omega
  rename_i hHeld
  clear hS1 hS2 hS3 hS4 hS5 hS6
  obtain ⟨hS1, hS2, hS3, hS4, hS5, hS6⟩ := hHeld
  clear hb1 hb2 ho1 ho2 hz1 hk1 hK hb0 hbW
  have hxH : Hid (RowB w2 x K X) := hx2
  have hBH : Hid (Below w.heap.size w w2) := hB2
  clear hx2 hB2
  go_wp2
  go_region_held3 (fun W' => W'.cell? ⟨w.heap.size, 0, none⟩ = some (.bool false) ∧ W'.cell? ⟨w.heap.size, 1, none⟩ = some (.int .i64 m) ∧ W'.cell? ⟨w.heap.size, 2, none⟩ = some (.int .i64 e) ∧ W'.cell? ⟨w.heap.size + 1, 0, none⟩ = some (.bool true) ∧ W'.cell? ⟨w.heap.size + 1, 1, none⟩ = some (.int .i64 n) ∧ W'.cell? ⟨w.heap.size + 1, 2, none⟩ = some (.int .i64 f)) (first | go_keep | (refine keepAB (by assumption) (by assumption))) (first | (go_at_call 15; refine (bits_calls n hn _).mono ?_; rintro e1 w3 ⟨v2, k2, hk2, hz2, rfl, ho3, hb3⟩) | (go_at_call 14; refine (up_callsW v2 k2 n (f - e) (by omega) (by omega) _ (rowB_own hz2 (by omega) ho3)).mono ?_; rintro e2 w4 ⟨y, rfl, ho4, hb4⟩))
  have hb24 : Below w2.heap.size w2 w4 := (belowL hb3).trans (hb4.mono (belowL hb3).size)
  have hB4 : Below w.heap.size w w4 := hBH.out.trans (hb24.mono hBH.out.size)
  obtain ⟨L, hL⟩ : ∃ L, (f - e).toNat + k2 = L := ⟨_, rfl⟩
  rw [hL, hYH.out] at ho4
  have hy4 : RowB w4 y L Y := rowB_own (by rw [← hYH.out, ← hL]; exact up_zero n k2 _ hz2) (by omega) ho4
  have hx4 : RowB w4 x K X := hxH.out.kept hb24
  have hLl : L ≤ 3000 := by omega
  rename_i hHeld
  clear hS1 hS2 hS3 hS4 hS5 hS6
  obtain ⟨hS1, hS2, hS3, hS4, hS5, hS6⟩ := hHeld
  clear hb3 hb4 ho3 ho4 hz2 hk2 hL hb24 hXH hYH hxH hBH
  have hxH : Hid (RowB w4 x K X) := hx4
  have hyH : Hid (RowB w4 y L Y) := hy4
  have hBH : Hid (Below w.heap.size w w4) := hB4
  clear hx4 hy4 hB4
  by_cases hXY : X < Y
  · go_wp2_with (go_at_call_of 18 x; refine (less_calls x y K L X Y _ hxH.out.1 hyH.out.1).mono ?_; rintro e w' ⟨rfl, he⟩; subst w')
    go_region_held3 (fun W' => W'.cell? ⟨w.heap.size, 0, none⟩ = some (.bool false) ∧ W'.cell? ⟨w.heap.size, 1, none⟩ = some (.int .i64 m) ∧ W'.cell? ⟨w.heap.size, 2, none⟩ = some (.int .i64 e) ∧ W'.cell? ⟨w.heap.size + 1, 0, none⟩ = some (.bool true) ∧ W'.cell? ⟨w.heap.size + 1, 1, none⟩ = some (.int .i64 n) ∧ W'.cell? ⟨w.heap.size + 1, 2, none⟩ = some (.int .i64 f)) (first | go_keep | (refine keepAB (by assumption) (by assumption))) (first | (go_at_call 17; refine (sumSub_calls y x L K Y X _ (rowB_drew hyH.out) (rowB_drew hxH.out) (Nat.le_of_lt hXY)).mono ?_; rintro e3 w5 ⟨z, rfl, hz5, ho5, hb5⟩) | (go_at_call 16; refine (round_row _ _ z _ (Y - X) e _ (by omega) (by omega) (rowB_own hz5 (by omega) ho5)).mono ?_; rintro e4 w6 ⟨rfl, hw6⟩; subst w6))
    go_wp2
    go_ret
    exact ⟨by simp [addFin, hXY], hBH.out.trans ((belowL hb5).mono hBH.out.size)⟩
  · go_wp2_with (first | (go_at_call_of 18 x; refine (less_calls x y K L X Y _ hxH.out.1 hyH.out.1).mono ?_; rintro e w' ⟨rfl, he⟩; subst w') | (go_at_call 17; refine (sumSub_calls x y K L X Y _ hxH.out hyH.out (Nat.le_of_not_lt hXY)).mono ?_; rintro e3 w5 ⟨z, rfl, hz5, ho5, hb5⟩; have hT1 := keep1 hS1 hb5) | (go_at_call 16; refine (round_row _ _ z _ (X - Y) e _ (by omega) (by omega) (rowB_own hz5 (by omega) ho5)).mono ?_; rintro e4 w6 ⟨rfl, hw6⟩; subst w6))
    go_ret
    exact ⟨by simp [addFin, hXY], hBH.out.trans (hb5.mono hBH.out.size)⟩
set_option maxHeartbeats 2000000 in
theorem addHighMP (m n : Nat) (e f : Int) (hm : m < 9223372036854775808) (hn : n < 9223372036854775808) (he : -1074 ≤ e) (he2 : e ≤ 1000) (hf : -1074 ≤ f) (hf2 : f ≤ 1000) (hfe : ¬ f < e) (w : World) :
    Calls Try.prog 7 #[.agg (real true m e 0), .agg (real false n f 0)] w fun r w' => r = .returned (.int .i64 (addFin true (m * 2 ^ (e - e).toNat) false (n * 2 ^ (f - e).toNat) e)) ∧ Below w.heap.size w w' := by
  unfold real
  obtain ⟨X, hX⟩ : ∃ X, m * 2 ^ (e - e).toNat = X := ⟨_, rfl⟩
  obtain ⟨Y, hY⟩ : ∃ Y, n * 2 ^ (f - e).toNat = Y := ⟨_, rfl⟩
  rw [hX, hY]
  have hXH : Hid (m * 2 ^ (e - e).toNat = X) := hX
  have hYH : Hid (n * 2 ^ (f - e).toNat = Y) := hY
  clear hX hY
  go_enter Try.func7, Try.ntmps7
  go_wp2
  obtain ⟨W, hW⟩ : ∃ W : World, W = ((w.alloc (.cells #[.bool true, .int .i64 m, .int .i64 e, .int .i64 0] 26)).alloc (.cells #[.bool false, .int .i64 n, .int .i64 f, .int .i64 0] 26)) := ⟨_, rfl⟩
  rw [← hW]
  have hbW : Below w.heap.size w W := by rw [hW]; exact ((Below.refl _ _).alloc (Nat.le_refl _) _).alloc (by simp) _
  have hS := startAB hW
  obtain ⟨hS1, hS2, hS3, hS4, hS5, hS6⟩ := hS
  clear hW
  have hb0 : Below W.heap.size W W := Below.refl _ _
  go_region_held3 (fun W' => W'.cell? ⟨w.heap.size, 0, none⟩ = some (.bool true) ∧ W'.cell? ⟨w.heap.size, 1, none⟩ = some (.int .i64 m) ∧ W'.cell? ⟨w.heap.size, 2, none⟩ = some (.int .i64 e) ∧ W'.cell? ⟨w.heap.size + 1, 0, none⟩ = some (.bool false) ∧ W'.cell? ⟨w.heap.size + 1, 1, none⟩ = some (.int .i64 n) ∧ W'.cell? ⟨w.heap.size + 1, 2, none⟩ = some (.int .i64 f)) (first | go_keep | (refine keepAB (by assumption) (by assumption))) (first | (go_at_call 15; refine (bits_calls m hm _).mono ?_; rintro e1 w1 ⟨v1, k1, hk1, hz1, rfl, ho1, hb1⟩) | (go_at_call 14; refine (up_callsW v1 k1 m (0) (by omega) (by omega) _ (rowB_own hz1 (by omega) ho1)).mono ?_; rintro e2 w2 ⟨x, rfl, ho2, hb2⟩))
  have hB2 : Below w.heap.size w w2 := (hbW.trans ((belowL hb1).mono hbW.size)).trans (hb2.mono (Nat.le_trans hbW.size (belowL hb1).size))
  obtain ⟨K, hK⟩ : ∃ K, (e - e).toNat + k1 = K := ⟨_, rfl⟩
  rw [show (0 : Int).toNat = (e - e).toNat by simp] at ho2
  rw [hK, hXH.out] at ho2
  have hx2 : RowB w2 x K X := rowB_own (by rw [← hXH.out, ← hK]; exact up_zero m k1 _ hz1) (by omega) ho2
  have hKl : K ≤ 3000 := by omega
  rename_i hHeld
  clear hS1 hS2 hS3 hS4 hS5 hS6
  obtain ⟨hS1, hS2, hS3, hS4, hS5, hS6⟩ := hHeld
  clear hb1 hb2 ho1 ho2 hz1 hk1 hK hb0 hbW
  have hxH : Hid (RowB w2 x K X) := hx2
  have hBH : Hid (Below w.heap.size w w2) := hB2
  clear hx2 hB2
  go_wp2
  go_region_held3 (fun W' => W'.cell? ⟨w.heap.size, 0, none⟩ = some (.bool true) ∧ W'.cell? ⟨w.heap.size, 1, none⟩ = some (.int .i64 m) ∧ W'.cell? ⟨w.heap.size, 2, none⟩ = some (.int .i64 e) ∧ W'.cell? ⟨w.heap.size + 1, 0, none⟩ = some (.bool false) ∧ W'.cell? ⟨w.heap.size + 1, 1, none⟩ = some (.int .i64 n) ∧ W'.cell? ⟨w.heap.size + 1, 2, none⟩ = some (.int .i64 f)) (first | go_keep | (refine keepAB (by assumption) (by assumption))) (first | (go_at_call 15; refine (bits_calls n hn _).mono ?_; rintro e1 w3 ⟨v2, k2, hk2, hz2, rfl, ho3, hb3⟩) | (go_at_call 14; refine (up_callsW v2 k2 n (f - e) (by omega) (by omega) _ (rowB_own hz2 (by omega) ho3)).mono ?_; rintro e2 w4 ⟨y, rfl, ho4, hb4⟩))
  have hb24 : Below w2.heap.size w2 w4 := (belowL hb3).trans (hb4.mono (belowL hb3).size)
  have hB4 : Below w.heap.size w w4 := hBH.out.trans (hb24.mono hBH.out.size)
  obtain ⟨L, hL⟩ : ∃ L, (f - e).toNat + k2 = L := ⟨_, rfl⟩
  rw [hL, hYH.out] at ho4
  have hy4 : RowB w4 y L Y := rowB_own (by rw [← hYH.out, ← hL]; exact up_zero n k2 _ hz2) (by omega) ho4
  have hx4 : RowB w4 x K X := hxH.out.kept hb24
  have hLl : L ≤ 3000 := by omega
  rename_i hHeld
  clear hS1 hS2 hS3 hS4 hS5 hS6
  obtain ⟨hS1, hS2, hS3, hS4, hS5, hS6⟩ := hHeld
  clear hb3 hb4 ho3 ho4 hz2 hk2 hL hb24 hXH hYH hxH hBH
  have hxH : Hid (RowB w4 x K X) := hx4
  have hyH : Hid (RowB w4 y L Y) := hy4
  have hBH : Hid (Below w.heap.size w w4) := hB4
  clear hx4 hy4 hB4
  by_cases hXY : X < Y
  · go_wp2_with (go_at_call_of 18 x; refine (less_calls x y K L X Y _ hxH.out.1 hyH.out.1).mono ?_; rintro e w' ⟨rfl, he⟩; subst w')
    go_region_held3 (fun W' => W'.cell? ⟨w.heap.size, 0, none⟩ = some (.bool true) ∧ W'.cell? ⟨w.heap.size, 1, none⟩ = some (.int .i64 m) ∧ W'.cell? ⟨w.heap.size, 2, none⟩ = some (.int .i64 e) ∧ W'.cell? ⟨w.heap.size + 1, 0, none⟩ = some (.bool false) ∧ W'.cell? ⟨w.heap.size + 1, 1, none⟩ = some (.int .i64 n) ∧ W'.cell? ⟨w.heap.size + 1, 2, none⟩ = some (.int .i64 f)) (first | go_keep | (refine keepAB (by assumption) (by assumption))) (first | (go_at_call 17; refine (sumSub_calls y x L K Y X _ (rowB_drew hyH.out) (rowB_drew hxH.out) (Nat.le_of_lt hXY)).mono ?_; rintro e3 w5 ⟨z, rfl, hz5, ho5, hb5⟩) | (go_at_call 16; refine (round_row _ _ z _ (Y - X) e _ (by omega) (by omega) (rowB_own hz5 (by omega) ho5)).mono ?_; rintro e4 w6 ⟨rfl, hw6⟩; subst w6))
    go_wp2
    go_ret
    exact ⟨by simp [addFin, hXY], hBH.out.trans ((belowL hb5).mono hBH.out.size)⟩
  · obtain ⟨bv, hbv⟩ : ∃ bv, decide (0 < X - Y) = bv := ⟨_, rfl⟩
    have hbvH : Hid (decide (0 < X - Y) = bv) := hbv
    clear hbv
    have hmx : max L K + 1 ≤ 20000 := by omega
    go_wp2_with (first | (go_at_call_of 18 x; refine (less_calls x y K L X Y _ hxH.out.1 hyH.out.1).mono ?_; rintro e w' ⟨rfl, he⟩; subst w') | (go_at_call 17; refine (sumSub_calls x y K L X Y _ hxH.out hyH.out (Nat.le_of_not_lt hXY)).mono ?_; rintro e3 w5 ⟨z, rfl, hz5, ho5, hb5⟩; have hT1 := keep1 hS1 hb5) | (go_at_call 18; refine (lessNil _ _ z _ (X - Y) bv hbvH _ ((rowB_own hz5 (by omega) ho5).kept ((Below.refl _ _).alloc (Nat.le_refl _) _)).1).mono ?_; rintro e w' ⟨rfl, he⟩; subst w') | (go_at_call 16; refine (round_row _ _ z _ (X - Y) e _ (by omega) (by omega) ((rowB_own hz5 (by omega) ho5).kept ((Below.refl _ _).alloc (Nat.le_refl _) _))).mono ?_; rintro e4 w6 ⟨rfl, hw6⟩; subst w6))
    go_ret
    exact ⟨by simp [addFin, hXY, hbvH.out], hBH.out.trans ((hb5.mono hBH.out.size).alloc (Nat.le_trans hBH.out.size hb5.size) _)⟩
set_option maxHeartbeats 2000000 in
theorem addHighMM (m n : Nat) (e f : Int) (hm : m < 9223372036854775808) (hn : n < 9223372036854775808) (he : -1074 ≤ e) (he2 : e ≤ 1000) (hf : -1074 ≤ f) (hf2 : f ≤ 1000) (hfe : ¬ f < e) (w : World) :
    Calls Try.prog 7 #[.agg (real true m e 0), .agg (real true n f 0)] w fun r w' => r = .returned (.int .i64 (addFin true (m * 2 ^ (e - e).toNat) true (n * 2 ^ (f - e).toNat) e)) ∧ Below w.heap.size w w' := by
  unfold real
  obtain ⟨X, hX⟩ : ∃ X, m * 2 ^ (e - e).toNat = X := ⟨_, rfl⟩
  obtain ⟨Y, hY⟩ : ∃ Y, n * 2 ^ (f - e).toNat = Y := ⟨_, rfl⟩
  rw [hX, hY]
  have hXH : Hid (m * 2 ^ (e - e).toNat = X) := hX
  have hYH : Hid (n * 2 ^ (f - e).toNat = Y) := hY
  clear hX hY
  go_enter Try.func7, Try.ntmps7
  go_wp2
  obtain ⟨W, hW⟩ : ∃ W : World, W = ((w.alloc (.cells #[.bool true, .int .i64 m, .int .i64 e, .int .i64 0] 26)).alloc (.cells #[.bool true, .int .i64 n, .int .i64 f, .int .i64 0] 26)) := ⟨_, rfl⟩
  rw [← hW]
  have hbW : Below w.heap.size w W := by rw [hW]; exact ((Below.refl _ _).alloc (Nat.le_refl _) _).alloc (by simp) _
  have hS := startAB hW
  obtain ⟨hS1, hS2, hS3, hS4, hS5, hS6⟩ := hS
  clear hW
  have hb0 : Below W.heap.size W W := Below.refl _ _
  go_region_held3 (fun W' => W'.cell? ⟨w.heap.size, 0, none⟩ = some (.bool true) ∧ W'.cell? ⟨w.heap.size, 1, none⟩ = some (.int .i64 m) ∧ W'.cell? ⟨w.heap.size, 2, none⟩ = some (.int .i64 e) ∧ W'.cell? ⟨w.heap.size + 1, 0, none⟩ = some (.bool true) ∧ W'.cell? ⟨w.heap.size + 1, 1, none⟩ = some (.int .i64 n) ∧ W'.cell? ⟨w.heap.size + 1, 2, none⟩ = some (.int .i64 f)) (first | go_keep | (refine keepAB (by assumption) (by assumption))) (first | (go_at_call 15; refine (bits_calls m hm _).mono ?_; rintro e1 w1 ⟨v1, k1, hk1, hz1, rfl, ho1, hb1⟩) | (go_at_call 14; refine (up_callsW v1 k1 m (0) (by omega) (by omega) _ (rowB_own hz1 (by omega) ho1)).mono ?_; rintro e2 w2 ⟨x, rfl, ho2, hb2⟩))
  have hB2 : Below w.heap.size w w2 := (hbW.trans ((belowL hb1).mono hbW.size)).trans (hb2.mono (Nat.le_trans hbW.size (belowL hb1).size))
  obtain ⟨K, hK⟩ : ∃ K, (e - e).toNat + k1 = K := ⟨_, rfl⟩
  rw [show (0 : Int).toNat = (e - e).toNat by simp] at ho2
  rw [hK, hXH.out] at ho2
  have hx2 : RowB w2 x K X := rowB_own (by rw [← hXH.out, ← hK]; exact up_zero m k1 _ hz1) (by omega) ho2
  have hKl : K ≤ 3000 := by omega
  rename_i hHeld
  clear hS1 hS2 hS3 hS4 hS5 hS6
  obtain ⟨hS1, hS2, hS3, hS4, hS5, hS6⟩ := hHeld
  clear hb1 hb2 ho1 ho2 hz1 hk1 hK hb0 hbW
  have hxH : Hid (RowB w2 x K X) := hx2
  have hBH : Hid (Below w.heap.size w w2) := hB2
  clear hx2 hB2
  go_wp2
  go_region_held3 (fun W' => W'.cell? ⟨w.heap.size, 0, none⟩ = some (.bool true) ∧ W'.cell? ⟨w.heap.size, 1, none⟩ = some (.int .i64 m) ∧ W'.cell? ⟨w.heap.size, 2, none⟩ = some (.int .i64 e) ∧ W'.cell? ⟨w.heap.size + 1, 0, none⟩ = some (.bool true) ∧ W'.cell? ⟨w.heap.size + 1, 1, none⟩ = some (.int .i64 n) ∧ W'.cell? ⟨w.heap.size + 1, 2, none⟩ = some (.int .i64 f)) (first | go_keep | (refine keepAB (by assumption) (by assumption))) (first | (go_at_call 15; refine (bits_calls n hn _).mono ?_; rintro e1 w3 ⟨v2, k2, hk2, hz2, rfl, ho3, hb3⟩) | (go_at_call 14; refine (up_callsW v2 k2 n (f - e) (by omega) (by omega) _ (rowB_own hz2 (by omega) ho3)).mono ?_; rintro e2 w4 ⟨y, rfl, ho4, hb4⟩))
  have hb24 : Below w2.heap.size w2 w4 := (belowL hb3).trans (hb4.mono (belowL hb3).size)
  have hB4 : Below w.heap.size w w4 := hBH.out.trans (hb24.mono hBH.out.size)
  obtain ⟨L, hL⟩ : ∃ L, (f - e).toNat + k2 = L := ⟨_, rfl⟩
  rw [hL, hYH.out] at ho4
  have hy4 : RowB w4 y L Y := rowB_own (by rw [← hYH.out, ← hL]; exact up_zero n k2 _ hz2) (by omega) ho4
  have hx4 : RowB w4 x K X := hxH.out.kept hb24
  have hLl : L ≤ 3000 := by omega
  rename_i hHeld
  clear hS1 hS2 hS3 hS4 hS5 hS6
  obtain ⟨hS1, hS2, hS3, hS4, hS5, hS6⟩ := hHeld
  clear hb3 hb4 ho3 ho4 hz2 hk2 hL hb24 hXH hYH hxH hBH
  have hxH : Hid (RowB w4 x K X) := hx4
  have hyH : Hid (RowB w4 y L Y) := hy4
  have hBH : Hid (Below w.heap.size w w4) := hB4
  clear hx4 hy4 hB4
  go_wp2
  go_region_held3 (fun W' => W'.cell? ⟨w.heap.size, 0, none⟩ = some (.bool true) ∧ W'.cell? ⟨w.heap.size, 1, none⟩ = some (.int .i64 m) ∧ W'.cell? ⟨w.heap.size, 2, none⟩ = some (.int .i64 e) ∧ W'.cell? ⟨w.heap.size + 1, 0, none⟩ = some (.bool true) ∧ W'.cell? ⟨w.heap.size + 1, 1, none⟩ = some (.int .i64 n) ∧ W'.cell? ⟨w.heap.size + 1, 2, none⟩ = some (.int .i64 f)) (first | go_keep | (refine keepAB (by assumption) (by assumption))) (first | (go_at_call 17; refine (sumAdd_calls x y K L X Y _ (rowB_drew hxH.out) (rowB_drew hyH.out)).mono ?_; rintro e3 w5 ⟨z, rfl, hz5, ho5, hb5⟩) | (go_at_call 16; refine (round_row _ _ z _ (X + Y) e _ (by omega) (by omega) (rowB_own hz5 (by omega) ho5)).mono ?_; rintro e4 w6 ⟨rfl, hw6⟩; subst w6))
  go_wp2
  go_ret
  exact ⟨by simp [addFin], hBH.out.trans ((belowL hb5).mono hBH.out.size)⟩

/-- The sum of two numbers, by spec.l1FloatAdd. -/
theorem addFin_calls (s t : Bool) (m n : Nat) (e f : Int) (hm : m < 9223372036854775808) (hn : n < 9223372036854775808) (he : -1074 ≤ e) (he2 : e ≤ 1000) (hf : -1074 ≤ f) (hf2 : f ≤ 1000) (w : World) :
    Calls Try.prog 7 #[.agg (real s m e 0), .agg (real t n f 0)] w fun r w' => r = .returned (.int .i64 (addFin s (m * 2 ^ (e - min e f).toNat) t (n * 2 ^ (f - min e f).toNat) (min e f))) ∧ Below w.heap.size w w' := by
  by_cases h : f < e
  · rw [show min e f = f by omega]
    cases s <;> cases t
    · exact addLowPP m n e f hm hn he he2 hf hf2 h w
    · exact addLowPM m n e f hm hn he he2 hf hf2 h w
    · exact addLowMP m n e f hm hn he he2 hf hf2 h w
    · exact addLowMM m n e f hm hn he he2 hf hf2 h w
  · rw [show min e f = e by omega]
    cases s <;> cases t
    · exact addHighPP m n e f hm hn he he2 hf hf2 h w
    · exact addHighPM m n e f hm hn he he2 hf hf2 h w
    · exact addHighMP m n e f hm hn he he2 hf hf2 h w
    · exact addHighMM m n e f hm hn he he2 hf hf2 h w

theorem addInf_left (s t : Bool) (m n e f : Int) (w : World) :
    Calls Try.prog 7 #[.agg (real s m e 1), .agg (real t n f 0)] w fun r w' => r = .returned (.int .i64 (signedOf s 9218868437227405312)) ∧ Below w.heap.size w w' := by
  unfold real
  have hb : ∀ a b, Below w.heap.size w ((w.alloc a).alloc b) := fun a b => ((Below.refl _ _).alloc (Nat.le_refl _) _).alloc (by simp) _
  have hbH : Hid (∀ a b, Below w.heap.size w ((w.alloc a).alloc b)) := hb
  clear hb
  go_enter Try.func7, Try.ntmps7
  go_wp2_with (go_at_call 13; refine (signed_calls _ _ _).mono ?_; rintro e' w' ⟨rfl, he'⟩; subst w')
  go_ret
  exact ⟨rfl, hbH.out _ _⟩
theorem addInf_right (s t : Bool) (m n e f : Int) (w : World) :
    Calls Try.prog 7 #[.agg (real s m e 0), .agg (real t n f 1)] w fun r w' => r = .returned (.int .i64 (signedOf t 9218868437227405312)) ∧ Below w.heap.size w w' := by
  unfold real
  have hb : ∀ a b, Below w.heap.size w ((w.alloc a).alloc b) := fun a b => ((Below.refl _ _).alloc (Nat.le_refl _) _).alloc (by simp) _
  have hbH : Hid (∀ a b, Below w.heap.size w ((w.alloc a).alloc b)) := hb
  clear hb
  go_enter Try.func7, Try.ntmps7
  go_wp2_with (go_at_call 13; refine (signed_calls _ _ _).mono ?_; rintro e' w' ⟨rfl, he'⟩; subst w')
  go_ret
  exact ⟨rfl, hbH.out _ _⟩
theorem addInf_both (s t : Bool) (m n e f : Int) (w : World) :
    Calls Try.prog 7 #[.agg (real s m e 1), .agg (real t n f 1)] w fun r w' => r = .returned (.int .i64 (if s = t then signedOf s 9218868437227405312 else 9221120237041090560)) ∧ Below w.heap.size w w' := by
  unfold real
  have hb : ∀ a b, Below w.heap.size w ((w.alloc a).alloc b) := fun a b => ((Below.refl _ _).alloc (Nat.le_refl _) _).alloc (by simp) _
  have hbH : Hid (∀ a b, Below w.heap.size w ((w.alloc a).alloc b)) := hb
  clear hb
  cases s <;> cases t
  all_goals
    go_enter Try.func7, Try.ntmps7
    go_wp2_with (go_at_call 13; refine (signed_calls _ _ _).mono ?_; rintro e' w' ⟨rfl, he'⟩; subst w')
    go_ret
    exact ⟨rfl, hbH.out _ _⟩
end Go.Proofs.Ytjkmoggajpkdeaa
