/- The drawing of a signature: some text; nothing that was there has changed. -/
import Derived.Test.YtkfbgghkcojdpaaDoorDraw
import Derived.Test.YtkfbgghkcojdpaaDoorSplit
namespace Go.Proofs.YtkfbgghkcojdpaaDoor
set_option linter.unusedVariables false
open Go.ChangeShapes Go.WideShapes Go.ChangeAt Go.RowKit

theorem once_calls (C : Option Addr) (len cap p : Nat) (w0 w : World) (n : Int) (h1 : 0 < n) (h : Cur C len cap p w0 w) :
    Calls Tryd.prog 24 #[.pointer (some ⟨p, 0, none⟩), .int .i64 n] w fun e w' => ∃ b : Bool, e = .returned (.bool b) ∧ Cur C len cap p w0 w' ∧ Only p w w' := by
  have hb : Hid (Calls Tryd.prog 22 #[.pointer (some ⟨p, 0, none⟩), .int .i64 n] w fun e w' => ∃ x : Int, 0 ≤ x ∧ x < n ∧ e = .returned (.int .i64 x) ∧ Cur C len cap p w0 w' ∧ Only p w w') := below_calls C len cap p w0 w n h1 h
  clear h
  go_enter Tryd.func24, Tryd.ntmps24
  go_wp2_with (go_at_call 22; refine hb.out.mono ?_; rintro e w' ⟨x, hx0, hx1, rfl, hc, ho⟩)
  go_ret
  exact ⟨_, rfl, hc, ho⟩

theorem tab5_calls (a0 a1 a2 a3 a4 : ByteArray) (B : Nat) (h0 : a0.size ≤ B) (h1 : a1.size ≤ B) (h2 : a2.size ≤ B) (h3 : a3.size ≤ B) (h4 : a4.size ≤ B) (C : Option Addr) (len cap p : Nat) (w0 w : World) (h : Cur C len cap p w0 w) :
    Calls Tryd.prog 22 #[.pointer (some ⟨p, 0, none⟩), .int .i64 5] (w.alloc (.cells #[.string a0, .string a1, .string a2, .string a3, .string a4] 9)) fun e w' => ∃ (r : Int) (v : ByteArray), 0 ≤ r ∧ r < 5 ∧ v.size ≤ B ∧ e = .returned (.int .i64 r) ∧ Cur C len cap p w0 w' ∧ Only p w w' ∧ w'.cell? ⟨w.heap.size, r.toNat, none⟩ = some (.string v) := by
  have hp := h.lt
  refine (below_calls C len cap p w0 _ 5 (by decide) (Cur.alloc h _)).mono ?_
  rintro e w2 ⟨r, hr0, hr1, rfl, hc2, ho2⟩
  have key : ∀ v : ByteArray, (#[.string a0, .string a1, .string a2, .string a3, .string a4] : Array Value)[r.toNat]? = some (.string v) → w2.cell? ⟨w.heap.size, r.toNat, none⟩ = some (.string v) := fun v hv => by
    rw [ho2.cell (by simp) (by omega), World.cell?_alloc_new]
    exact hv
  have hex : ∃ v : ByteArray, v.size ≤ B ∧ w2.cell? ⟨w.heap.size, r.toNat, none⟩ = some (.string v) := by
    have hr : r = 0 ∨ r = 1 ∨ r = 2 ∨ r = 3 ∨ r = 4 := by omega
    rcases hr with rfl | rfl | rfl | rfl | rfl
    · exact ⟨a0, h0, key a0 rfl⟩
    · exact ⟨a1, h1, key a1 rfl⟩
    · exact ⟨a2, h2, key a2 rfl⟩
    · exact ⟨a3, h3, key a3 rfl⟩
    · exact ⟨a4, h4, key a4 rfl⟩
  obtain ⟨v, hv, hcell⟩ := hex
  exact ⟨r, v, hr0, hr1, hv, rfl, hc2, ((Only.refl p w).alloc _).trans ho2, hcell⟩
theorem tab6_calls (a0 a1 a2 a3 a4 a5 : ByteArray) (B : Nat) (h0 : a0.size ≤ B) (h1 : a1.size ≤ B) (h2 : a2.size ≤ B) (h3 : a3.size ≤ B) (h4 : a4.size ≤ B) (h5 : a5.size ≤ B) (C : Option Addr) (len cap p : Nat) (w0 w : World) (h : Cur C len cap p w0 w) :
    Calls Tryd.prog 22 #[.pointer (some ⟨p, 0, none⟩), .int .i64 6] (w.alloc (.cells #[.string a0, .string a1, .string a2, .string a3, .string a4, .string a5] 9)) fun e w' => ∃ (r : Int) (v : ByteArray), 0 ≤ r ∧ r < 6 ∧ v.size ≤ B ∧ e = .returned (.int .i64 r) ∧ Cur C len cap p w0 w' ∧ Only p w w' ∧ w'.cell? ⟨w.heap.size, r.toNat, none⟩ = some (.string v) := by
  have hp := h.lt
  refine (below_calls C len cap p w0 _ 6 (by decide) (Cur.alloc h _)).mono ?_
  rintro e w2 ⟨r, hr0, hr1, rfl, hc2, ho2⟩
  have key : ∀ v : ByteArray, (#[.string a0, .string a1, .string a2, .string a3, .string a4, .string a5] : Array Value)[r.toNat]? = some (.string v) → w2.cell? ⟨w.heap.size, r.toNat, none⟩ = some (.string v) := fun v hv => by
    rw [ho2.cell (by simp) (by omega), World.cell?_alloc_new]
    exact hv
  have hex : ∃ v : ByteArray, v.size ≤ B ∧ w2.cell? ⟨w.heap.size, r.toNat, none⟩ = some (.string v) := by
    have hr : r = 0 ∨ r = 1 ∨ r = 2 ∨ r = 3 ∨ r = 4 ∨ r = 5 := by omega
    rcases hr with rfl | rfl | rfl | rfl | rfl | rfl
    · exact ⟨a0, h0, key a0 rfl⟩
    · exact ⟨a1, h1, key a1 rfl⟩
    · exact ⟨a2, h2, key a2 rfl⟩
    · exact ⟨a3, h3, key a3 rfl⟩
    · exact ⟨a4, h4, key a4 rfl⟩
    · exact ⟨a5, h5, key a5 rfl⟩
  obtain ⟨v, hv, hcell⟩ := hex
  exact ⟨r, v, hr0, hr1, hv, rfl, hc2, ((Only.refl p w).alloc _).trans ho2, hcell⟩
theorem tab7_calls (a0 a1 a2 a3 a4 a5 a6 : ByteArray) (B : Nat) (h0 : a0.size ≤ B) (h1 : a1.size ≤ B) (h2 : a2.size ≤ B) (h3 : a3.size ≤ B) (h4 : a4.size ≤ B) (h5 : a5.size ≤ B) (h6 : a6.size ≤ B) (C : Option Addr) (len cap p : Nat) (w0 w : World) (h : Cur C len cap p w0 w) :
    Calls Tryd.prog 22 #[.pointer (some ⟨p, 0, none⟩), .int .i64 7] (w.alloc (.cells #[.string a0, .string a1, .string a2, .string a3, .string a4, .string a5, .string a6] 9)) fun e w' => ∃ (r : Int) (v : ByteArray), 0 ≤ r ∧ r < 7 ∧ v.size ≤ B ∧ e = .returned (.int .i64 r) ∧ Cur C len cap p w0 w' ∧ Only p w w' ∧ w'.cell? ⟨w.heap.size, r.toNat, none⟩ = some (.string v) := by
  have hp := h.lt
  refine (below_calls C len cap p w0 _ 7 (by decide) (Cur.alloc h _)).mono ?_
  rintro e w2 ⟨r, hr0, hr1, rfl, hc2, ho2⟩
  have key : ∀ v : ByteArray, (#[.string a0, .string a1, .string a2, .string a3, .string a4, .string a5, .string a6] : Array Value)[r.toNat]? = some (.string v) → w2.cell? ⟨w.heap.size, r.toNat, none⟩ = some (.string v) := fun v hv => by
    rw [ho2.cell (by simp) (by omega), World.cell?_alloc_new]
    exact hv
  have hex : ∃ v : ByteArray, v.size ≤ B ∧ w2.cell? ⟨w.heap.size, r.toNat, none⟩ = some (.string v) := by
    have hr : r = 0 ∨ r = 1 ∨ r = 2 ∨ r = 3 ∨ r = 4 ∨ r = 5 ∨ r = 6 := by omega
    rcases hr with rfl | rfl | rfl | rfl | rfl | rfl | rfl
    · exact ⟨a0, h0, key a0 rfl⟩
    · exact ⟨a1, h1, key a1 rfl⟩
    · exact ⟨a2, h2, key a2 rfl⟩
    · exact ⟨a3, h3, key a3 rfl⟩
    · exact ⟨a4, h4, key a4 rfl⟩
    · exact ⟨a5, h5, key a5 rfl⟩
    · exact ⟨a6, h6, key a6 rfl⟩
  obtain ⟨v, hv, hcell⟩ := hex
  exact ⟨r, v, hr0, hr1, hv, rfl, hc2, ((Only.refl p w).alloc _).trans ho2, hcell⟩
theorem tab10_calls (a0 a1 a2 a3 a4 a5 a6 a7 a8 a9 : ByteArray) (B : Nat) (h0 : a0.size ≤ B) (h1 : a1.size ≤ B) (h2 : a2.size ≤ B) (h3 : a3.size ≤ B) (h4 : a4.size ≤ B) (h5 : a5.size ≤ B) (h6 : a6.size ≤ B) (h7 : a7.size ≤ B) (h8 : a8.size ≤ B) (h9 : a9.size ≤ B) (C : Option Addr) (len cap p : Nat) (w0 w : World) (h : Cur C len cap p w0 w) :
    Calls Tryd.prog 22 #[.pointer (some ⟨p, 0, none⟩), .int .i64 10] (w.alloc (.cells #[.string a0, .string a1, .string a2, .string a3, .string a4, .string a5, .string a6, .string a7, .string a8, .string a9] 9)) fun e w' => ∃ (r : Int) (v : ByteArray), 0 ≤ r ∧ r < 10 ∧ v.size ≤ B ∧ e = .returned (.int .i64 r) ∧ Cur C len cap p w0 w' ∧ Only p w w' ∧ w'.cell? ⟨w.heap.size, r.toNat, none⟩ = some (.string v) := by
  have hp := h.lt
  refine (below_calls C len cap p w0 _ 10 (by decide) (Cur.alloc h _)).mono ?_
  rintro e w2 ⟨r, hr0, hr1, rfl, hc2, ho2⟩
  have key : ∀ v : ByteArray, (#[.string a0, .string a1, .string a2, .string a3, .string a4, .string a5, .string a6, .string a7, .string a8, .string a9] : Array Value)[r.toNat]? = some (.string v) → w2.cell? ⟨w.heap.size, r.toNat, none⟩ = some (.string v) := fun v hv => by
    rw [ho2.cell (by simp) (by omega), World.cell?_alloc_new]
    exact hv
  have hex : ∃ v : ByteArray, v.size ≤ B ∧ w2.cell? ⟨w.heap.size, r.toNat, none⟩ = some (.string v) := by
    have hr : r = 0 ∨ r = 1 ∨ r = 2 ∨ r = 3 ∨ r = 4 ∨ r = 5 ∨ r = 6 ∨ r = 7 ∨ r = 8 ∨ r = 9 := by omega
    rcases hr with rfl | rfl | rfl | rfl | rfl | rfl | rfl | rfl | rfl | rfl
    · exact ⟨a0, h0, key a0 rfl⟩
    · exact ⟨a1, h1, key a1 rfl⟩
    · exact ⟨a2, h2, key a2 rfl⟩
    · exact ⟨a3, h3, key a3 rfl⟩
    · exact ⟨a4, h4, key a4 rfl⟩
    · exact ⟨a5, h5, key a5 rfl⟩
    · exact ⟨a6, h6, key a6 rfl⟩
    · exact ⟨a7, h7, key a7 rfl⟩
    · exact ⟨a8, h8, key a8 rfl⟩
    · exact ⟨a9, h9, key a9 rfl⟩
  obtain ⟨v, hv, hcell⟩ := hex
  exact ⟨r, v, hr0, hr1, hv, rfl, hc2, ((Only.refl p w).alloc _).trans ho2, hcell⟩

set_option maxRecDepth 1000000 in
set_option maxHeartbeats 4000000 in
theorem drawName_calls (C : Option Addr) (len cap p : Nat) (w0 w : World) (h : Cur C len cap p w0 w) :
    Calls Tryd.prog 39 #[.pointer (some ⟨p, 0, none⟩)] w fun e w' => ∃ s : ByteArray, s.size ≤ 100 ∧ e = .returned (.string s) ∧ Cur C len cap p w0 w' ∧ Only p w w' := by
  go_enter Tryd.func39, Tryd.ntmps39
  go_wp2_with (go_at_call 22; fail)
  refine (tab10_calls ⟨#[97]⟩ ⟨#[78, 117, 109]⟩ ⟨#[114, 117, 110]⟩ ⟨#[79, 98, 106, 101, 99, 116]⟩ ⟨#[120, 95, 49, 46, 121, 36]⟩ ⟨#[]⟩ ⟨#[49, 97]⟩ ⟨#[97, 45, 98]⟩ ⟨#[65, 98, 99, 100, 101, 102, 103, 104, 105, 106, 46, 65, 98, 99, 100, 101, 102, 103, 104, 105, 106, 46, 65, 98, 99, 100, 101, 102, 103, 104, 105, 106, 46, 65, 98, 99, 100, 101, 102, 103]⟩ ⟨#[65, 98, 99, 100, 101, 102, 103, 104, 105, 106, 46, 65, 98, 99, 100, 101, 102, 103, 104, 105, 106, 46, 65, 98, 99, 100, 101, 102, 103, 104, 105, 106, 46, 65, 98, 99, 100, 101, 102, 103, 104]⟩ 100 (by decide) (by decide) (by decide) (by decide) (by decide) (by decide) (by decide) (by decide) (by decide) (by decide) C len cap p w0 w h).mono ?_
  rintro e w1 ⟨r, v, hr0, hr1, hv, rfl, hc1, ho1, hcell⟩
  go_wp2
  go_ret
  exact ⟨v, hv, rfl, hc1, ho1⟩

set_option maxRecDepth 1000000 in
set_option maxHeartbeats 8000000 in
theorem drawType_calls (C : Option Addr) (len cap p : Nat) (w0 w : World) (h : Cur C len cap p w0 w) :
    Calls Tryd.prog 23 #[.pointer (some ⟨p, 0, none⟩)] w fun e w' => ∃ s : ByteArray, s.size ≤ 300 ∧ e = .returned (.string s) ∧ Cur C len cap p w0 w' ∧ Only p w w' := by
  have belowH : Hid (∀ w1 n, 0 < n → Cur C len cap p w0 w1 → Only p w w1 → Calls Tryd.prog 22 #[.pointer (some ⟨p, 0, none⟩), .int .i64 n] w1 fun e w' => ∃ x : Int, 0 ≤ x ∧ x < n ∧ e = .returned (.int .i64 x) ∧ Cur C len cap p w0 w' ∧ Only p w w') := fun w1 n hn hc ho => (below_calls C len cap p w0 w1 n hn hc).mono fun e w' ⟨x, a, b, c, d, f⟩ => ⟨x, a, b, c, d, ho.trans f⟩
  have onceH : Hid (∀ w1 n, 0 < n → Cur C len cap p w0 w1 → Only p w w1 → Calls Tryd.prog 24 #[.pointer (some ⟨p, 0, none⟩), .int .i64 n] w1 fun e w' => ∃ b : Bool, e = .returned (.bool b) ∧ Cur C len cap p w0 w' ∧ Only p w w') := fun w1 n hn hc ho => (once_calls C len cap p w0 w1 n hn hc).mono fun e w' ⟨b, a, c, d⟩ => ⟨b, a, c, ho.trans d⟩
  have nameH : Hid (∀ w1, Cur C len cap p w0 w1 → Only p w w1 → Calls Tryd.prog 39 #[.pointer (some ⟨p, 0, none⟩)] w1 fun e w' => ∃ s : ByteArray, s.size ≤ 100 ∧ e = .returned (.string s) ∧ Cur C len cap p w0 w' ∧ Only p w w') := fun w1 hc ho => (drawName_calls C len cap p w0 w1 hc).mono fun e w' ⟨s, a, b, c, d⟩ => ⟨s, a, b, c, ho.trans d⟩
  have ho := Only.refl p w
  go_enter Tryd.func23, Tryd.ntmps23
  go_wp2_with (go_at_call 22; fail)
  refine (belowH.out _ _ (by decide) h ho).mono ?_
  rintro e w1 ⟨x, hx0, hx1, rfl, hc1, ho1⟩
  clear h ho
  go_wp2
  go_loopw [3, 4] (fun sv iv wr => ∃ (S : ByteArray) (i : Nat), sv = .string S ∧ iv = .int .i64 i ∧ S.size + i ≤ 3 ∧ Cur C len cap p w0 wr ∧ Only p w wr) (fun _ iv _ => (intOf iv).toNat)
  case atStart => exact ⟨⟨#[]⟩, x.toNat, rfl, by simp; omega, by show 0 + x.toNat ≤ 3; omega, hc1, ho1⟩
  case round =>
    obtain ⟨S, i, rfl, rfl, hi, hc2, ho2⟩ := hrel
    by_cases h0 : (0 : Int) < i
    · go_wp2_with (go_at_call 24; refine (onceH.out _ _ (by decide) hc2 ho2).mono ?_; rintro e w3 ⟨b3, rfl, hc3, ho3⟩; cases b3)
      · go_roundw
        case rel => exact ⟨S, i - 1, rfl, by simp; omega, by omega, hc3, ho3⟩
        case measure => simp [intOf]; omega
      · go_roundw
        case rel => exact ⟨S ++ ⟨#[91]⟩, i - 1, rfl, by simp; omega, by rw [ByteArray.size_append]; show S.size + 1 + (i - 1) ≤ 3; omega, hc3, ho3⟩
        case measure => simp [intOf]; omega
    · have hS : S.size ≤ 3 := by omega
      go_wp2_with (go_at_call 24; fail)
      refine (onceH.out _ _ (by decide) hc2 ho2).mono ?_
      rintro e w3 ⟨b3, rfl, hc3, ho3⟩
      clear hc2 ho2
      cases b3
      · go_wp2_with (go_at_call 22; fail)
        refine (tab6_calls ⟨#[73]⟩ ⟨#[74]⟩ ⟨#[68]⟩ ⟨#[64, 83, 116, 114, 105, 110, 103]⟩ ⟨#[64, 79, 98, 106, 101, 99, 116]⟩ ⟨#[64, 78, 117, 109]⟩ 101 (by decide) (by decide) (by decide) (by decide) (by decide) (by decide) C len cap p w0 _ hc3).mono ?_
        rintro e w4 ⟨r, v, hr0, hr1, hv, rfl, hc4, ho4, hcell⟩
        have ho5 := ho3.trans ho4
        clear ho4
        go_wp2_with (go_at_call 24; refine (onceH.out _ _ (by decide) hc4 ho5).mono ?_; rintro e w6 ⟨b6, rfl, hc6, ho6⟩; cases b6)
        · go_ret
          exact ⟨_, by rw [ByteArray.size_append]; omega, rfl, hc6, ho6⟩
        · go_wp2_with (go_at_call 39; fail)
          refine (nameH.out _ hc6 ho6).mono ?_
          rintro e w7 ⟨nm, hnm, rfl, hc7, ho7⟩
          go_wp2_with (go_at_call 22; fail)
          refine (tab5_calls ⟨#[]⟩ ⟨#[64]⟩ ⟨#[86]⟩ (⟨#[64]⟩ ++ nm) ⟨#[73, 73]⟩ 101 (by decide) (by decide) (by decide) (by rw [ByteArray.size_append]; exact Nat.le_trans (Nat.add_le_add_left hnm _) (by decide)) (by decide) C len cap p w0 _ hc7).mono ?_
          rintro e w8 ⟨r8, v8, hr80, hr81, hv8, rfl, hc8, ho8, hcell8⟩
          have ho9 := ho7.trans ho8
          go_wp2
          go_ret
          exact ⟨_, by rw [ByteArray.size_append]; omega, rfl, hc8, ho9⟩
      · have hS2 : (S ++ ⟨#[91, 91]⟩).size ≤ 5 := by rw [ByteArray.size_append]; show S.size + 2 ≤ 5; omega
        go_wp2_with (go_at_call 22; fail)
        refine (tab6_calls ⟨#[73]⟩ ⟨#[74]⟩ ⟨#[68]⟩ ⟨#[64, 83, 116, 114, 105, 110, 103]⟩ ⟨#[64, 79, 98, 106, 101, 99, 116]⟩ ⟨#[64, 78, 117, 109]⟩ 101 (by decide) (by decide) (by decide) (by decide) (by decide) (by decide) C len cap p w0 _ hc3).mono ?_
        rintro e w4 ⟨r, v, hr0, hr1, hv, rfl, hc4, ho4, hcell⟩
        have ho5 := ho3.trans ho4
        clear ho4
        go_wp2_with (go_at_call 24; refine (onceH.out _ _ (by decide) hc4 ho5).mono ?_; rintro e w6 ⟨b6, rfl, hc6, ho6⟩; cases b6)
        · go_ret
          exact ⟨_, by rw [ByteArray.size_append]; omega, rfl, hc6, ho6⟩
        · go_wp2_with (go_at_call 39; fail)
          refine (nameH.out _ hc6 ho6).mono ?_
          rintro e w7 ⟨nm, hnm, rfl, hc7, ho7⟩
          go_wp2_with (go_at_call 22; fail)
          refine (tab5_calls ⟨#[]⟩ ⟨#[64]⟩ ⟨#[86]⟩ (⟨#[64]⟩ ++ nm) ⟨#[73, 73]⟩ 101 (by decide) (by decide) (by decide) (by rw [ByteArray.size_append]; exact Nat.le_trans (Nat.add_le_add_left hnm _) (by decide)) (by decide) C len cap p w0 _ hc7).mono ?_
          rintro e w8 ⟨r8, v8, hr80, hr81, hv8, rfl, hc8, ho8, hcell8⟩
          have ho9 := ho7.trans ho8
          go_wp2
          go_ret
          exact ⟨_, by rw [ByteArray.size_append]; omega, rfl, hc8, ho9⟩

set_option maxRecDepth 1000000 in
set_option maxHeartbeats 8000000 in
theorem drawSig_calls (C : Option Addr) (len cap p : Nat) (w0 w : World) (h : Cur C len cap p w0 w) :
    Calls Tryd.prog 14 #[.pointer (some ⟨p, 0, none⟩)] w fun e w' => ∃ s : ByteArray, s.size ≤ 2000 ∧ e = .returned (.string s) ∧ Cur C len cap p w0 w' ∧ Only p w w' := by
  have belowH : Hid (∀ w1 n, 0 < n → Cur C len cap p w0 w1 → Only p w w1 → Calls Tryd.prog 22 #[.pointer (some ⟨p, 0, none⟩), .int .i64 n] w1 fun e w' => ∃ x : Int, 0 ≤ x ∧ x < n ∧ e = .returned (.int .i64 x) ∧ Cur C len cap p w0 w' ∧ Only p w w') := fun w1 n hn hc ho => (below_calls C len cap p w0 w1 n hn hc).mono fun e w' ⟨x, a, b, c, d, f⟩ => ⟨x, a, b, c, d, ho.trans f⟩
  have onceH : Hid (∀ w1 n, 0 < n → Cur C len cap p w0 w1 → Only p w w1 → Calls Tryd.prog 24 #[.pointer (some ⟨p, 0, none⟩), .int .i64 n] w1 fun e w' => ∃ b : Bool, e = .returned (.bool b) ∧ Cur C len cap p w0 w' ∧ Only p w w') := fun w1 n hn hc ho => (once_calls C len cap p w0 w1 n hn hc).mono fun e w' ⟨b, a, c, d⟩ => ⟨b, a, c, ho.trans d⟩
  have typeH : Hid (∀ w1, Cur C len cap p w0 w1 → Only p w w1 → Calls Tryd.prog 23 #[.pointer (some ⟨p, 0, none⟩)] w1 fun e w' => ∃ s : ByteArray, s.size ≤ 300 ∧ e = .returned (.string s) ∧ Cur C len cap p w0 w' ∧ Only p w w') := fun w1 hc ho => (drawType_calls C len cap p w0 w1 hc).mono fun e w' ⟨s, a, b, c, d⟩ => ⟨s, a, b, c, ho.trans d⟩
  have ho := Only.refl p w
  go_enter Tryd.func14, Tryd.ntmps14
  go_wp2_with (go_at_call 22; fail)
  refine (belowH.out _ _ (by decide) h ho).mono ?_
  rintro e w1 ⟨x, hx0, hx1, rfl, hc1, ho1⟩
  clear h ho
  go_wp2
  go_loopw [3, 4] (fun sv iv wr => ∃ (S : ByteArray) (i : Nat), sv = .string S ∧ iv = .int .i64 i ∧ S.size + i * 301 ≤ 1205 ∧ Cur C len cap p w0 wr ∧ Only p w wr) (fun _ iv _ => (intOf iv).toNat)
  case atStart => exact ⟨⟨#[40]⟩, x.toNat, rfl, by simp; omega, by show 1 + x.toNat * 301 ≤ 1205; omega, hc1, ho1⟩
  case round =>
    obtain ⟨S, i, rfl, rfl, hi, hc2, ho2⟩ := hrel
    by_cases h0 : (0 : Int) < i
    · go_wp2_with (go_at_call 23; fail)
      refine (typeH.out _ hc2 ho2).mono ?_
      rintro e w3 ⟨T, hT, rfl, hc3, ho3⟩
      clear hc2 ho2
      have hST : (S ++ T).size ≤ 1300 := by rw [ByteArray.size_append]; omega
      by_cases h1 : (1 : Int) < i
      · go_wp2
        go_roundw
        case rel => exact ⟨S ++ T ++ ⟨#[44]⟩, i - 1, rfl, by simp; omega, by rw [ByteArray.size_append, ByteArray.size_append]; show S.size + T.size + 1 + (i - 1) * 301 ≤ 1205; omega, hc3, ho3⟩
        case measure => simp [intOf]; omega
      · go_wp2_with (go_at_call 24; refine (onceH.out _ _ (by decide) hc3 ho3).mono ?_; rintro e w4 ⟨b4, rfl, hc4, ho4⟩; cases b4)
        · go_roundw
          case rel => exact ⟨S ++ T, i - 1, rfl, by simp; omega, by rw [ByteArray.size_append]; omega, hc4, ho4⟩
          case measure => simp [intOf]; omega
        · go_roundw
          case rel => exact ⟨S ++ T ++ ⟨#[44]⟩, i - 1, rfl, by simp; omega, by rw [ByteArray.size_append, ByteArray.size_append]; show S.size + T.size + 1 + (i - 1) * 301 ≤ 1205; omega, hc4, ho4⟩
          case measure => simp [intOf]; omega
    · have hS : S.size ≤ 1205 := by omega
      have hS1 : (S ++ ⟨#[41]⟩).size ≤ 1206 := by rw [ByteArray.size_append]; show S.size + 1 ≤ 1206; omega
      go_wp2_with (go_at_call 24; fail)
      refine (onceH.out _ _ (by decide) hc2 ho2).mono ?_
      rintro e w3 ⟨b3, rfl, hc3, ho3⟩
      clear hc2 ho2
      cases b3
      · go_wp2_with (go_at_call 24; fail)
        refine (onceH.out _ _ (by decide) hc3 ho3).mono ?_
        rintro e w4 ⟨b4, rfl, hc4, ho4⟩
        clear hc3 ho3
        cases b4
        · go_wp2_with (go_at_call 23; refine (typeH.out _ hc4 ho4).mono ?_; rintro e w5 ⟨T, hT, rfl, hc5, ho5⟩)
          go_ret
          exact ⟨_, by rw [ByteArray.size_append]; omega, rfl, hc5, ho5⟩
        · go_wp2_with (go_at_call 22; fail)
          refine (tab7_calls ⟨#[]⟩ ⟨#[40, 41]⟩ ⟨#[40, 73, 41]⟩ ⟨#[41, 86]⟩ ⟨#[40, 41, 86, 86]⟩ ⟨#[40, 73, 44, 73, 44, 73, 44, 73, 44, 73, 44, 73, 44, 73, 44, 73, 41, 86]⟩ ⟨#[40, 73, 44, 73, 44, 73, 44, 73, 44, 73, 44, 73, 44, 73, 44, 73, 44, 73, 41, 86]⟩ 101 (by decide) (by decide) (by decide) (by decide) (by decide) (by decide) (by decide) C len cap p w0 _ hc4).mono ?_
          rintro e w5 ⟨r, v, hr0, hr1, hv, rfl, hc5, ho5, hcell⟩
          have ho6 := ho4.trans ho5
          go_wp2
          go_ret
          exact ⟨v, by omega, rfl, hc5, ho6⟩
      · go_wp2
        go_ret
        exact ⟨_, by rw [ByteArray.size_append]; show (S ++ ⟨#[41]⟩).size + 1 ≤ 2000; omega, rfl, hc3, ho3⟩

set_option maxRecDepth 1000000 in
theorem drawSigOk_calls (C : Option Addr) (len cap : Nat) (w : World) (hc : Code C len w) :
    Calls Tryd.prog 6 #[.slice C len cap] w fun e w' => ∃ s : ByteArray, s.size ≤ 2000 ∧ e = .returned (.string s) ∧ Below w.heap.size w w' := by
  have newH : Hid (Calls Tryd.prog 13 #[.slice C len cap] w fun e w' => e = .returned (.pointer (some ⟨w.heap.size, 0, none⟩)) ∧ Cur C len cap w.heap.size w w') := new_calls C len cap w hc
  have sigH : Hid (∀ w1, Cur C len cap w.heap.size w w1 → Calls Tryd.prog 14 #[.pointer (some ⟨w.heap.size, 0, none⟩)] w1 fun e w' => ∃ s : ByteArray, s.size ≤ 2000 ∧ e = .returned (.string s) ∧ Below w.heap.size w w') := fun w1 hc => (drawSig_calls C len cap _ w w1 hc).mono fun e w' ⟨s, a, b, c, d⟩ => ⟨s, a, b, c.bel⟩
  clear hc
  go_enter Tryd.func6, Tryd.ntmps6
  go_wp2_with (first
    | (go_at_call 13; refine newH.out.mono ?_; rintro e w1 ⟨rfl, hc1⟩)
    | (go_at_call 14; refine (sigH.out _ (by assumption)).mono ?_; rintro e w4 ⟨s, hs, rfl, hb⟩))
  go_ret
  exact ⟨s, hs, rfl, hb⟩
end Go.Proofs.YtkfbgghkcojdpaaDoor
