/- The drawing functions of spec: each returns, draws some number, and changes nothing that was there. -/
import Derived.Test.YtkfbgghkcojdpaaDoorCur
import Derived.LoopTactic
namespace Go.Proofs.YtkfbgghkcojdpaaDoor
open Go.ChangeShapes Go.WideShapes Go.ChangeAt Go.RowKit

theorem below_small (C : Option Addr) (len cap p : Nat) (w0 w : World) (n : Int) (h1 : 0 < n) (h2 : n ≤ 256) (h : Cur C len cap p w0 w) :
    Calls Tryd.prog 22 #[.pointer (some ⟨p, 0, none⟩), .int .i64 n] w fun e w' => ∃ x : Int, 0 ≤ x ∧ x < n ∧ e = .returned (.int .i64 x) ∧ Cur C len cap p w0 w' ∧ Only p w w' := by
  have hn : ¬ n ≤ 0 := by omega
  have hb := byte_calls C len cap p w0 w h
  clear h
  have hz : ¬ n = 0 := by omega
  go_enter Tryd.func22, Tryd.ntmps22
  go_wp2_with (go_at_call 38; refine hb.mono ?_; rintro e w' ⟨x, hx0, hx1, rfl, hc, ho⟩)
  go_ret
  refine ⟨_, ?_, ?_, rfl, by assumption, by assumption⟩
  · exact Int.emod_nonneg _ hz
  · exact Int.emod_lt_of_pos _ h1

theorem below_great (C : Option Addr) (len cap p : Nat) (w0 w : World) (n : Int) (h1 : 256 < n) (h : Cur C len cap p w0 w) :
    Calls Tryd.prog 22 #[.pointer (some ⟨p, 0, none⟩), .int .i64 n] w fun e w' => ∃ x : Int, 0 ≤ x ∧ x < n ∧ e = .returned (.int .i64 x) ∧ Cur C len cap p w0 w' ∧ Only p w w' := by
  have hn : ¬ n ≤ 0 := by omega
  have hn2 : ¬ n ≤ 256 := by omega
  have hz : ¬ n = 0 := by omega
  have ho := Only.refl p w
  have hb : ∀ w1, Cur C len cap p w0 w1 → Only p w w1 → Calls Tryd.prog 38 #[.pointer (some ⟨p, 0, none⟩)] w1 fun e w' => ∃ x : Int, 0 ≤ x ∧ x < 256 ∧ e = .returned (.int .i64 x) ∧ Cur C len cap p w0 w' ∧ Only p w w' := fun w1 hc ho => (byte_calls C len cap p w0 w1 hc).mono fun e w' ⟨x, a, b, c, d, f⟩ => ⟨x, a, b, c, d, ho.trans f⟩
  go_enter Tryd.func22, Tryd.ntmps22
  go_wp2_with (go_at_call 38; refine (hb _ (by assumption) (by assumption)).mono ?_; rintro e w' ⟨x, hx0, hx1, rfl, hc, ho⟩)
  go_ret
  refine ⟨_, ?_, ?_, rfl, by assumption, by assumption⟩
  · exact Int.emod_nonneg _ hz
  · exact Int.emod_lt_of_pos _ (by omega)

theorem below_calls (C : Option Addr) (len cap p : Nat) (w0 w : World) (n : Int) (h1 : 0 < n) (h : Cur C len cap p w0 w) :
    Calls Tryd.prog 22 #[.pointer (some ⟨p, 0, none⟩), .int .i64 n] w fun e w' => ∃ x : Int, 0 ≤ x ∧ x < n ∧ e = .returned (.int .i64 x) ∧ Cur C len cap p w0 w' ∧ Only p w w' := by
  by_cases h2 : n ≤ 256
  · exact below_small C len cap p w0 w n h1 h2 h
  · exact below_great C len cap p w0 w n (by omega) h

theorem new_nil (C : Option Addr) (cap : Nat) (w : World) :
    Calls Tryd.prog 13 #[.slice C 0 cap] w fun e w' => e = .returned (.pointer (some ⟨w.heap.size, 0, none⟩)) ∧ ∃ h : Int, w' = w.alloc (.cells #[.slice C 0 cap, .int .i64 0, .int .i64 h] 43) := by
  go_enter Tryd.func13, Tryd.ntmps13
  go_wp2
  go_loop [3, 4] (fun h i => (∃ s : Int, h = .int .i64 s) ∧ i = .int .i64 0) (fun _ _ => 0)
  case atStart => exact ⟨⟨_, rfl⟩, rfl⟩
  case round =>
    obtain ⟨⟨s, rfl⟩, rfl⟩ := hrel
    go_wp2
    go_ret
    exact ⟨rfl, _, rfl⟩

theorem new_row (b off len cap : Nat) (w : World) (hm : len ≤ 9223372036854775807) (hrow : ∀ j, j < len → ∃ y, w.cell? ⟨b, off + j, none⟩ = some (.int .u8 y)) :
    Calls Tryd.prog 13 #[.slice (some ⟨b, off, none⟩) len cap] w fun e w' => e = .returned (.pointer (some ⟨w.heap.size, 0, none⟩)) ∧ ∃ h : Int, w' = w.alloc (.cells #[.slice (some ⟨b, off, none⟩) len cap, .int .i64 0, .int .i64 h] 43) := by
  go_enter Tryd.func13, Tryd.ntmps13
  go_wp2
  go_loop [3, 4] (fun h i => (∃ s : Int, h = .int .i64 s) ∧ ∃ k : Nat, k ≤ len ∧ i = .int .i64 k) (fun _ i => len - (intOf i).toNat)
  case atStart => exact ⟨⟨_, rfl⟩, 0, by omega, rfl⟩
  case round =>
    obtain ⟨⟨s, rfl⟩, k, hk, rfl⟩ := hrel
    by_cases hlt : k < len
    · obtain ⟨y, hy⟩ := hrow k hlt
      clear hrow
      have hlt' : (k : Int) < (len : Int) := by omega
      go_wp2
      go_round
      case rel => exact ⟨⟨_, rfl⟩, k + 1, by omega, by go_num⟩
      case measure => simp [intOf]; omega
    · clear hrow
      have hlt' : ¬ (k : Int) < (len : Int) := by omega
      go_wp2
      go_ret
      exact ⟨rfl, _, rfl⟩
/-- A cell of a block of eight whole numbers that was laid ahead of a drawing. -/
theorem eight (p : Nat) (W w2 : World) (a b c d e f g h : Int) (t : TypeId) (r : Int) (ho : Only p (W.alloc (.cells #[.int .i64 a, .int .i64 b, .int .i64 c, .int .i64 d, .int .i64 e, .int .i64 f, .int .i64 g, .int .i64 h] t)) w2)
    (hp : p < W.heap.size) (h0 : 0 ≤ r) (h8 : r < 8) :
    ∃ v : Int, (v = a ∨ v = b ∨ v = c ∨ v = d ∨ v = e ∨ v = f ∨ v = g ∨ v = h) ∧ w2.cell? ⟨W.heap.size, r.toNat, none⟩ = some (.int .i64 v) := by
  rw [ho.cell (by simp) (by omega), World.cell?_alloc_new]
  have hr : r = 0 ∨ r = 1 ∨ r = 2 ∨ r = 3 ∨ r = 4 ∨ r = 5 ∨ r = 6 ∨ r = 7 := by omega
  rcases hr with rfl | rfl | rfl | rfl | rfl | rfl | rfl | rfl
  · exact ⟨a, by simp, rfl⟩
  · exact ⟨b, by simp, rfl⟩
  · exact ⟨c, by simp, rfl⟩
  · exact ⟨d, by simp, rfl⟩
  · exact ⟨e, by simp, rfl⟩
  · exact ⟨f, by simp, rfl⟩
  · exact ⟨g, by simp, rfl⟩
  · exact ⟨h, by simp, rfl⟩

theorem new_calls (C : Option Addr) (len cap : Nat) (w : World) (hc : Code C len w) :
    Calls Tryd.prog 13 #[.slice C len cap] w fun e w' => e = .returned (.pointer (some ⟨w.heap.size, 0, none⟩)) ∧ Cur C len cap w.heap.size w w' := by
  have key : ∀ (e : Ending) (w' : World), (e = .returned (.pointer (some ⟨w.heap.size, 0, none⟩)) ∧ ∃ h : Int, w' = w.alloc (.cells #[.slice C len cap, .int .i64 0, .int .i64 h] 43)) → e = .returned (.pointer (some ⟨w.heap.size, 0, none⟩)) ∧ Cur C len cap w.heap.size w w' := by
    rintro e w' ⟨rfl, h, rfl⟩
    refine ⟨rfl, hc, (Below.refl _ _).alloc (Nat.le_refl _) _, Nat.le_refl _, ⟨0, h, Nat.zero_le _, ?_, ?_, ?_⟩, ?_, ?_⟩
    · rw [World.cell?_alloc_new]; rfl
    · rw [World.cell?_alloc_new]; rfl
    · rw [World.cell?_alloc_new]; rfl
    · exact World.frozen?_alloc_new _ _ _ _
    · exact World.frozen?_alloc_new _ _ _ _
  obtain ⟨hm, rfl | ⟨b, off, rfl, hrow⟩⟩ := hc
  · exact (new_nil C cap w).mono key
  · exact (new_row b off len cap w hm hrow).mono key

end Go.Proofs.YtkfbgghkcojdpaaDoor
