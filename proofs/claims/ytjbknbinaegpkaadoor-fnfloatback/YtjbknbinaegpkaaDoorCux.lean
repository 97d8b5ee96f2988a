/- The cursor of the drawing functions with its whole state: what is drawn hangs on the bytes and the state alone. -/
import Derived.Test.YtjbknbinaegpkaaDoorDrb
namespace Go.Proofs.YtjbknbinaegpkaaDoor
set_option linter.unusedVariables false
open Go.ChangeShapes Go.WideShapes Go.ChangeAt Go.RowKit

/-- The row of bytes zs, in the first world. -/
def Codx (C : Option Addr) (zs : List Int) (len : Nat) (w0 : World) : Prop :=
  len ≤ 9223372036854775807 ∧ (len = 0 ∨ ∃ b off, C = some ⟨b, off, none⟩ ∧ ∀ j, j < len → w0.cell? ⟨b, off + j, none⟩ = some (.int .u8 (zs.getD j 0)))
theorem Codx.later {C : Option Addr} {zs : List Int} {len : Nat} {w0 w : World} (h : Codx C zs len w0) (hb : Below w0.heap.size w0 w) : Codx C zs len w := by
  obtain ⟨hm, h | ⟨b, off, e, hrow⟩⟩ := h
  · exact ⟨hm, .inl h⟩
  · refine ⟨hm, .inr ⟨b, off, e, fun j hj => ?_⟩⟩
    have hy := hrow j hj
    rw [hb.cell (block_lt_of_cell hy)]; exact hy
theorem Codx.code {C : Option Addr} {zs : List Int} {len : Nat} {w0 : World} (h : Codx C zs len w0) : Code C len w0 := by
  obtain ⟨hm, h | ⟨b, off, e, hrow⟩⟩ := h
  · exact ⟨hm, .inl h⟩
  · exact ⟨hm, .inr ⟨b, off, e, fun j hj => ⟨_, hrow j hj⟩⟩⟩

/-- The cursor in block p at the place st.1 with the state st.2. -/
structure Cux (zs : List Int) (len : Nat) (st : Nat × Int) (C : Option Addr) (cap p : Nat) (w0 w : World) : Prop where
  code : Codx C zs len w0
  bel : Below w0.heap.size w0 w
  new : w0.heap.size ≤ p
  le : st.1 ≤ len
  c0 : w.cell? ⟨p, 0, none⟩ = some (.slice C len cap)
  c1 : w.cell? ⟨p, 1, none⟩ = some (.int .i64 st.1)
  c2 : w.cell? ⟨p, 2, none⟩ = some (.int .i64 st.2)
  f1 : w.frozen? ⟨p, 1, none⟩ = false
  f2 : w.frozen? ⟨p, 2, none⟩ = false
theorem Cux.lt {zs : List Int} {len : Nat} {st : Nat × Int} {C : Option Addr} {cap p : Nat} {w0 w : World} (h : Cux zs len st C cap p w0 w) : p < w.heap.size := block_lt_of_cell h.c0
theorem Cux.later {zs : List Int} {len : Nat} {st : Nat × Int} {C : Option Addr} {cap p : Nat} {w0 w w' : World} (h : Cux zs len st C cap p w0 w) (hb : Below w.heap.size w w') : Cux zs len st C cap p w0 w' := by
  have hl := h.lt
  have hblk := hb.block p hl
  exact ⟨h.code, h.bel.trans (hb.mono h.bel.size), h.new, h.le, by rw [World.cell?_of_block (w := w) hblk]; exact h.c0, by rw [World.cell?_of_block (w := w) hblk]; exact h.c1, by rw [World.cell?_of_block (w := w) hblk]; exact h.c2, by rw [World.frozen?_of_block (w := w) hblk]; exact h.f1, by rw [World.frozen?_of_block (w := w) hblk]; exact h.f2⟩

def hNext (h : Int) : Int := wrap64 (wrap64 (h * 6364136223846793005) + 1442695040888963407)
def xNext (h : Int) : Int := bits BinOp.xor IntKind.i64 (hNext h / 8589934592) (hNext h / 35184372088832) % 256
/-- One byte drawn, and the state behind it. -/
def bx (zs : List Int) (len : Nat) (st : Nat × Int) : Int × (Nat × Int) :=
  if st.1 < len then (wrap64 (xNext st.2 + wrap64 (zs.getD st.1 0)) % 256, (st.1 + 1, hNext st.2)) else (xNext st.2, (st.1, hNext st.2))
theorem bx_in (zs : List Int) (len : Nat) (st : Nat × Int) : 0 ≤ (bx zs len st).1 ∧ (bx zs len st).1 < 256 := by
  unfold bx
  split
  · exact ⟨Int.emod_nonneg _ (by decide), Int.emod_lt_of_pos _ (by decide)⟩
  · unfold xNext; exact ⟨Int.emod_nonneg _ (by decide), Int.emod_lt_of_pos _ (by decide)⟩

theorem byteEndX (p : Nat) (a : Option Addr) (len cap : Nat) (i h : Int) (w : World)
    (c0 : w.cell? ⟨p, 0, none⟩ = some (.slice a len cap)) (c1 : w.cell? ⟨p, 1, none⟩ = some (.int .i64 i)) (c2 : w.cell? ⟨p, 2, none⟩ = some (.int .i64 h))
    (f2 : w.frozen? ⟨p, 2, none⟩ = false) (hi : ¬ i < (len : Int)) :
    Calls Tryd.prog 45 #[.pointer (some ⟨p, 0, none⟩)] w fun e w' => e = .returned (.int .i64 (xNext h)) ∧ w'.heap = (w.setCell ⟨p, 2, none⟩ (.int .i64 (hNext h))).heap ∧ w'.os = w.os ∧ w'.tape = w.tape ∧ w'.output = w.output := by
  have hb := and255
  go_enter Tryd.func45, Tryd.ntmps45
  go_wp2
  go_quiet (fail)
  go_wp2
  go_quiet (fail)
  go_wp2
  go_ret
  exact ⟨rfl, rfl, rfl, rfl, rfl⟩
theorem byteMoreX (p b off : Nat) (len cap k : Nat) (h y : Int) (w : World)
    (c0 : w.cell? ⟨p, 0, none⟩ = some (.slice (some ⟨b, off, none⟩) len cap)) (c1 : w.cell? ⟨p, 1, none⟩ = some (.int .i64 k)) (c2 : w.cell? ⟨p, 2, none⟩ = some (.int .i64 h))
    (f1 : w.frozen? ⟨p, 1, none⟩ = false) (f2 : w.frozen? ⟨p, 2, none⟩ = false) (hk : k < len) (hm : len ≤ 9223372036854775807)
    (hbp : ¬ b = p) (cy : w.cell? ⟨b, off + k, none⟩ = some (.int .u8 y)) :
    Calls Tryd.prog 45 #[.pointer (some ⟨p, 0, none⟩)] w fun e w' => e = .returned (.int .i64 (wrap64 (xNext h + wrap64 y) % 256)) ∧ w'.heap = ((w.setCell ⟨p, 2, none⟩ (.int .i64 (hNext h))).setCell ⟨p, 1, none⟩ (.int .i64 (k + 1 : Nat))).heap ∧ w'.os = w.os ∧ w'.tape = w.tape ∧ w'.output = w.output := by
  have hb := and255
  have hk' : (k : Int) < (len : Int) := by omega
  go_enter Tryd.func45, Tryd.ntmps45
  go_wp2
  go_quiet (fail)
  go_wp2
  go_quiet (fail)
  go_wp2
  go_quiet (fail)
  go_wp2
  go_ret
  exact ⟨rfl, rfl, rfl, rfl, rfl⟩

theorem Cux.of_heap {zs : List Int} {len : Nat} {st : Nat × Int} {C : Option Addr} {cap p : Nat} {w0 w1 w' : World} (h : Cux zs len st C cap p w0 w1) (hh : w'.heap = w1.heap) (ho : w'.os = w1.os) (ht : w'.tape = w1.tape) (hu : w'.output = w1.output) : Cux zs len st C cap p w0 w' := by
  have hc : ∀ a, w'.cell? a = w1.cell? a := fun a => World.cell?_of_block (w := w1) (by rw [hh])
  have hf : ∀ a, w'.frozen? a = w1.frozen? a := fun a => World.frozen?_of_block (w := w1) (by rw [hh])
  exact ⟨h.code, ⟨ho.trans h.bel.os, ht.trans h.bel.tape, hu.trans h.bel.output, by rw [hh]; exact h.bel.size, fun k hk => by rw [hh]; exact h.bel.block k hk⟩, h.new, h.le, by rw [hc]; exact h.c0, by rw [hc]; exact h.c1, by rw [hc]; exact h.c2, by rw [hf]; exact h.f1, by rw [hf]; exact h.f2⟩

theorem byteX_calls (zs : List Int) (len : Nat) (st : Nat × Int) (C : Option Addr) (cap p : Nat) (w0 w : World) (h : Cux zs len st C cap p w0 w) :
    Calls Tryd.prog 45 #[.pointer (some ⟨p, 0, none⟩)] w fun e w' => e = .returned (.int .i64 (bx zs len st).1) ∧ Cux zs len (bx zs len st).2 C cap p w0 w' ∧ Only p w w' := by
  obtain ⟨k, s⟩ := st
  obtain ⟨hm, hcode⟩ := h.code
  have hl := h.lt
  have only1 : ∀ (v : Value) (i : Nat), Only p w (w.setCell ⟨p, i, none⟩ v) := fun v i => ⟨by simp, fun j _ hj => Below.heap_setCell _ _ _ _ hj⟩
  unfold bx
  by_cases hlt : k < len
  · rw [if_pos hlt]
    rcases hcode with rfl | ⟨b, off, rfl, hrow⟩
    · omega
    have hy := hrow k hlt
    have hb : b < w0.heap.size := block_lt_of_cell hy
    have hy' : w.cell? ⟨b, off + k, none⟩ = some (.int .u8 (zs.getD k 0)) := by rw [h.bel.cell hb]; exact hy
    refine (byteMoreX p b off len cap k s _ w h.c0 h.c1 h.c2 h.f1 h.f2 hlt hm (by have := h.new; omega) hy').mono ?_
    rintro e w' ⟨rfl, hh, ho, ht, hu⟩
    refine ⟨rfl, ?_, by rw [hh]; simp, fun j hj hp => by rw [hh]; exact ((only1 (.int .i64 (hNext s)) 2).trans ⟨by simp, fun j _ hj => Below.heap_setCell _ _ _ _ hj⟩).2 j hj hp⟩
    refine Cux.of_heap (w1 := (w.setCell ⟨p, 2, none⟩ (.int .i64 (hNext s))).setCell ⟨p, 1, none⟩ (.int .i64 (k + 1 : Nat))) ?_ hh ho ht hu
    refine ⟨h.code, (h.bel.setCell (p := ⟨p, 2, none⟩) h.new _).setCell (p := ⟨p, 1, none⟩) h.new _, h.new, hlt, ?_, ?_, ?_, ?_, ?_⟩
    · rw [cell_other _ p 1 0 _ (by decide), cell_other _ p 2 0 _ (by decide)]; exact h.c0
    · exact cell_same _ p 1 _ _ (by rw [cell_other _ p 2 1 _ (by decide)]; exact h.c1)
    · rw [cell_other _ p 1 2 _ (by decide)]; exact cell_same _ p 2 _ _ h.c2
    · rw [World.frozen?_setCell, World.frozen?_setCell]; exact h.f1
    · rw [World.frozen?_setCell, World.frozen?_setCell]; exact h.f2
  · rw [if_neg hlt]
    refine (byteEndX p C len cap k s w h.c0 h.c1 h.c2 h.f2 (by omega)).mono ?_
    rintro e w' ⟨rfl, hh, ho, ht, hu⟩
    refine ⟨rfl, ?_, by rw [hh]; simp, fun j hj hp => by rw [hh]; exact (only1 (.int .i64 (hNext s)) 2).2 j hj hp⟩
    refine Cux.of_heap (w1 := w.setCell ⟨p, 2, none⟩ (.int .i64 (hNext s))) ?_ hh ho ht hu
    refine ⟨h.code, h.bel.setCell (p := ⟨p, 2, none⟩) h.new _, h.new, h.le, ?_, ?_, ?_, ?_, ?_⟩
    · rw [cell_other _ p 2 0 _ (by decide)]; exact h.c0
    · rw [cell_other _ p 2 1 _ (by decide)]; exact h.c1
    · exact cell_same _ p 2 _ _ h.c2
    · rw [World.frozen?_setCell]; exact h.f1
    · rw [World.frozen?_setCell]; exact h.f2

/-- A function of the cursor alone, or with a number: from one state it always answers v and leaves the other state. -/
def Det1 (fn : FuncId) (zs : List Int) (len : Nat) (st st' : Nat × Int) (v : Value) : Prop :=
  ∀ C cap p w0 w, Cux zs len st C cap p w0 w → Calls Tryd.prog fn #[.pointer (some ⟨p, 0, none⟩)] w fun e w' => e = .returned v ∧ Cux zs len st' C cap p w0 w' ∧ Only p w w'
def Det2 (fn : FuncId) (n : Int) (zs : List Int) (len : Nat) (st st' : Nat × Int) (v : Value) : Prop :=
  ∀ C cap p w0 w, Cux zs len st C cap p w0 w → Calls Tryd.prog fn #[.pointer (some ⟨p, 0, none⟩), .int .i64 n] w fun e w' => e = .returned v ∧ Cux zs len st' C cap p w0 w' ∧ Only p w w'

theorem byte_det (zs : List Int) (len : Nat) (st : Nat × Int) : ∃ x st', 0 ≤ x ∧ x < 256 ∧ Det1 45 zs len st st' (.int .i64 x) :=
  ⟨_, _, (bx_in zs len st).1, (bx_in zs len st).2, fun C cap p w0 w h => byteX_calls zs len st C cap p w0 w h⟩

theorem below_det (n : Int) (h1 : 0 < n) (zs : List Int) (len : Nat) (st : Nat × Int) : ∃ x st', 0 ≤ x ∧ x < n ∧ Det2 24 n zs len st st' (.int .i64 x) := by
  have hz : ¬ n = 0 := by omega
  have hn : ¬ n ≤ 0 := by omega
  by_cases h2 : n ≤ 256
  · obtain ⟨x, st1, hx0, hx1, H⟩ := byte_det zs len st
    refine ⟨x % n, st1, Int.emod_nonneg _ hz, Int.emod_lt_of_pos _ h1, fun C cap p w0 w hc => ?_⟩
    have hb : Hid (Calls Tryd.prog 45 #[.pointer (some ⟨p, 0, none⟩)] w fun e w' => e = .returned (.int .i64 x) ∧ Cux zs len st1 C cap p w0 w' ∧ Only p w w') := H C cap p w0 w hc
    clear hc H
    go_enter Tryd.func24, Tryd.ntmps24
    go_wp2_with (go_at_call 45; refine hb.out.mono ?_; rintro e w' ⟨rfl, hc, ho⟩)
    go_ret
    exact ⟨rfl, hc, ho⟩
  · have hn2 : ¬ n ≤ 256 := h2
    obtain ⟨x1, st1, a1, b1, H1⟩ := byte_det zs len st
    obtain ⟨x2, st2, a2, b2, H2⟩ := byte_det zs len st1
    obtain ⟨x3, st3, a3, b3, H3⟩ := byte_det zs len st2
    obtain ⟨x4, st4, a4, b4, H4⟩ := byte_det zs len st3
    refine ⟨(x1 * 16777216 + x2 * 65536 + x3 * 256 + x4) % n, st4, Int.emod_nonneg _ hz, Int.emod_lt_of_pos _ h1, fun C cap p w0 w hc => ?_⟩
    have hb1 : Hid (Calls Tryd.prog 45 #[.pointer (some ⟨p, 0, none⟩)] w fun e w' => e = .returned (.int .i64 x1) ∧ Cux zs len st1 C cap p w0 w' ∧ Only p w w') := H1 C cap p w0 w hc
    have hb2 : Hid (∀ w1, Cux zs len st1 C cap p w0 w1 → Only p w w1 → Calls Tryd.prog 45 #[.pointer (some ⟨p, 0, none⟩)] w1 fun e w' => e = .returned (.int .i64 x2) ∧ Cux zs len st2 C cap p w0 w' ∧ Only p w w') := fun w1 hc ho => (H2 C cap p w0 w1 hc).mono fun e w' ⟨a, b, c⟩ => ⟨a, b, ho.trans c⟩
    have hb3 : Hid (∀ w1, Cux zs len st2 C cap p w0 w1 → Only p w w1 → Calls Tryd.prog 45 #[.pointer (some ⟨p, 0, none⟩)] w1 fun e w' => e = .returned (.int .i64 x3) ∧ Cux zs len st3 C cap p w0 w' ∧ Only p w w') := fun w1 hc ho => (H3 C cap p w0 w1 hc).mono fun e w' ⟨a, b, c⟩ => ⟨a, b, ho.trans c⟩
    have hb4 : Hid (∀ w1, Cux zs len st3 C cap p w0 w1 → Only p w w1 → Calls Tryd.prog 45 #[.pointer (some ⟨p, 0, none⟩)] w1 fun e w' => e = .returned (.int .i64 x4) ∧ Cux zs len st4 C cap p w0 w' ∧ Only p w w') := fun w1 hc ho => (H4 C cap p w0 w1 hc).mono fun e w' ⟨a, b, c⟩ => ⟨a, b, ho.trans c⟩
    clear hc H1 H2 H3 H4 h2
    go_enter Tryd.func24, Tryd.ntmps24
    go_wp2_with (go_at_call 45; fail)
    refine hb1.out.mono ?_
    rintro e v1 ⟨rfl, hc1, ho1⟩
    go_wp2_with (go_at_call 45; fail)
    refine (hb2.out _ hc1 ho1).mono ?_
    rintro e v2 ⟨rfl, hc2, ho2⟩
    go_wp2_with (go_at_call 45; fail)
    refine (hb3.out _ hc2 ho2).mono ?_
    rintro e v3 ⟨rfl, hc3, ho3⟩
    go_wp2_with (go_at_call 45; fail)
    refine (hb4.out _ hc3 ho3).mono ?_
    rintro e v4 ⟨rfl, hc4, ho4⟩
    go_wp2
    go_ret
    exact ⟨rfl, hc4, ho4⟩

theorem once_det (n : Int) (h1 : 0 < n) (zs : List Int) (len : Nat) (st : Nat × Int) : ∃ (b : Bool) (st' : Nat × Int), Det2 44 n zs len st st' (.bool b) := by
  obtain ⟨x, st1, _, _, H⟩ := below_det n h1 zs len st
  refine ⟨x == 0, st1, fun C cap p w0 w hc => ?_⟩
  have hb : Hid (Calls Tryd.prog 24 #[.pointer (some ⟨p, 0, none⟩), .int .i64 n] w fun e w' => e = .returned (.int .i64 x) ∧ Cux zs len st1 C cap p w0 w' ∧ Only p w w') := H C cap p w0 w hc
  clear hc H
  go_enter Tryd.func44, Tryd.ntmps44
  go_wp2_with (go_at_call 24; refine hb.out.mono ?_; rintro e w' ⟨rfl, hc, ho⟩)
  go_ret
  exact ⟨rfl, hc, ho⟩

def hStep (zs : List Int) (i : Nat) (h : Int) : Int := bits BinOp.and IntKind.i64 (wrap64 (wrap64 (wrap64 (h * 151) + wrap64 (zs.getD i 0)) + 5)) 1073741823
def hAll (zs : List Int) (len : Nat) : Nat → Int
  | 0 => wrap64 (90001 + (len : Int))
  | i + 1 => hStep zs i (hAll zs len i)
theorem newX_nil (zs : List Int) (C : Option Addr) (cap : Nat) (w : World) :
    Calls Tryd.prog 20 #[.slice C 0 cap] w fun e w' => e = .returned (.pointer (some ⟨w.heap.size, 0, none⟩)) ∧ w' = w.alloc (.cells #[.slice C 0 cap, .int .i64 0, .int .i64 (hAll zs 0 0)] 71) := by
  have h0 : hAll zs 0 0 = 90001 := by show wrap64 (90001 + ((0 : Nat) : Int)) = 90001; unfold wrap64; omega
  rw [h0]
  clear h0
  go_enter Tryd.func20, Tryd.ntmps20
  go_wp2
  go_loop [3, 4] (fun h i => h = .int .i64 90001 ∧ i = .int .i64 0) (fun _ _ => 0)
  case atStart => exact ⟨rfl, rfl⟩
  case round =>
    obtain ⟨rfl, rfl⟩ := hrel
    go_wp2
    go_ret
    exact ⟨rfl, rfl⟩
theorem newX_row (zs : List Int) (b off len cap : Nat) (w : World) (hm : len ≤ 9223372036854775807) (hrow : ∀ j, j < len → w.cell? ⟨b, off + j, none⟩ = some (.int .u8 (zs.getD j 0))) :
    Calls Tryd.prog 20 #[.slice (some ⟨b, off, none⟩) len cap] w fun e w' => e = .returned (.pointer (some ⟨w.heap.size, 0, none⟩)) ∧ w' = w.alloc (.cells #[.slice (some ⟨b, off, none⟩) len cap, .int .i64 0, .int .i64 (hAll zs len len)] 71) := by
  have hrH : Hid (∀ j, j < len → w.cell? ⟨b, off + j, none⟩ = some (.int .u8 (zs.getD j 0))) := hrow
  clear hrow
  go_enter Tryd.func20, Tryd.ntmps20
  go_wp2
  go_loop [3, 4] (fun h i => ∃ k : Nat, k ≤ len ∧ i = .int .i64 k ∧ ∃ s : Int, h = .int .i64 s ∧ Hid (s = hAll zs len k)) (fun _ i => len - (intOf i).toNat)
  case atStart => exact ⟨0, by omega, rfl, _, rfl, rfl⟩
  case round =>
    obtain ⟨k, hk, rfl, s, rfl, hs⟩ := hrel
    by_cases hlt : k < len
    · have hy := hrH.out k hlt
      have hs2 : Hid (bits BinOp.and IntKind.i64 (wrap64 (wrap64 (wrap64 (s * 151) + wrap64 (zs.getD k 0)) + 5)) 1073741823 = hAll zs len (k + 1)) := by
        show _ = hStep zs k (hAll zs len k)
        rw [← hs.out]; rfl
      clear hs
      have hlt' : (k : Int) < (len : Int) := by omega
      go_wp2
      go_round
      case rel => exact ⟨k + 1, by omega, by go_num, _, rfl, hs2⟩
      case measure => simp [intOf]; omega
    · have hlt' : ¬ (k : Int) < (len : Int) := by omega
      have hke : k = len := by omega
      have hs3 : Hid (s = hAll zs len len) := by
        have h := hs.out
        rw [hke] at h
        exact h
      clear hs hke
      go_wp2
      go_ret
      exact ⟨rfl, by rw [← hs3.out]⟩
theorem newX_calls (zs : List Int) (C : Option Addr) (len cap : Nat) (w : World) (hc : Codx C zs len w) :
    Calls Tryd.prog 20 #[.slice C len cap] w fun e w' => e = .returned (.pointer (some ⟨w.heap.size, 0, none⟩)) ∧ Cux zs len (0, hAll zs len len) C cap w.heap.size w w' := by
  have key : ∀ (e : Ending) (w' : World), (e = .returned (.pointer (some ⟨w.heap.size, 0, none⟩)) ∧ w' = w.alloc (.cells #[.slice C len cap, .int .i64 0, .int .i64 (hAll zs len len)] 71)) → e = .returned (.pointer (some ⟨w.heap.size, 0, none⟩)) ∧ Cux zs len (0, hAll zs len len) C cap w.heap.size w w' := by
    rintro e w' ⟨rfl, rfl⟩
    refine ⟨rfl, hc, (Below.refl _ _).alloc (Nat.le_refl _) _, Nat.le_refl _, Nat.zero_le _, ?_, ?_, ?_, ?_, ?_⟩
    · rw [World.cell?_alloc_new]; rfl
    · rw [World.cell?_alloc_new]; rfl
    · rw [World.cell?_alloc_new]; rfl
    · exact World.frozen?_alloc_new _ _ _ _
    · exact World.frozen?_alloc_new _ _ _ _
  obtain ⟨hm, rfl | ⟨b, off, rfl, hrow⟩⟩ := hc
  · exact (newX_nil zs C cap w).mono key
  · exact (newX_row zs b off len cap w hm hrow).mono key
end Go.Proofs.YtjbknbinaegpkaaDoor
