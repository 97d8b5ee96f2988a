/- The cursor of the drawing functions: what it holds in memory, and what one byte drawn from it leaves. -/
import Derived.Test.YtkfbgghkcojdpaaDoorRows
import Derived.WalkKit
import Derived.ProofKit
import Derived.OpenShut
import Derived.RegionTactic
import Derived.ChangeAlike
import Derived.BigQuiet
import Derived.Deep.QuietTactic
import Derived.Below
import Derived.WalkLawsBesides
import Derived.Laws.Rows
import Derived.Test.YtkfbgghkcojdpaaDoorNum
namespace Go.Proofs.YtkfbgghkcojdpaaDoor
open Go.ChangeShapes Go.WideShapes Go.ChangeAt Go.RowKit

theorem and255 (n : Int) : bits .and .i64 n 255 = n % 256 := and_mask n 8 (by decide)

theorem byteEnd (p : Nat) (a : Option Addr) (len cap : Nat) (i h : Int) (w : World)
    (c0 : w.cell? ⟨p, 0, none⟩ = some (.slice a len cap)) (c1 : w.cell? ⟨p, 1, none⟩ = some (.int .i64 i)) (c2 : w.cell? ⟨p, 2, none⟩ = some (.int .i64 h))
    (f2 : w.frozen? ⟨p, 2, none⟩ = false) (hi : ¬ i < (len : Int)) :
    Calls Tryd.prog 38 #[.pointer (some ⟨p, 0, none⟩)] w fun e w' => ∃ x h' : Int, 0 ≤ x ∧ x < 256 ∧ e = .returned (.int .i64 x) ∧ w'.heap = (w.setCell ⟨p, 2, none⟩ (.int .i64 h')).heap ∧ w'.os = w.os ∧ w'.tape = w.tape ∧ w'.output = w.output := by
  have hb := and255
  go_enter Tryd.func38, Tryd.ntmps38
  go_wp2
  go_quiet (fail)
  go_wp2
  go_quiet (fail)
  go_wp2
  go_ret
  exact ⟨_, _, Int.emod_nonneg _ (by decide), Int.emod_lt_of_pos _ (by decide), rfl, rfl, rfl, rfl, rfl⟩

theorem byteMore (p b off : Nat) (len cap k : Nat) (h y : Int) (w : World)
    (c0 : w.cell? ⟨p, 0, none⟩ = some (.slice (some ⟨b, off, none⟩) len cap)) (c1 : w.cell? ⟨p, 1, none⟩ = some (.int .i64 k)) (c2 : w.cell? ⟨p, 2, none⟩ = some (.int .i64 h))
    (f1 : w.frozen? ⟨p, 1, none⟩ = false) (f2 : w.frozen? ⟨p, 2, none⟩ = false) (hk : k < len) (hm : len ≤ 9223372036854775807)
    (hbp : ¬ b = p) (cy : w.cell? ⟨b, off + k, none⟩ = some (.int .u8 y)) :
    Calls Tryd.prog 38 #[.pointer (some ⟨p, 0, none⟩)] w fun e w' => ∃ x h' : Int, 0 ≤ x ∧ x < 256 ∧ e = .returned (.int .i64 x) ∧ w'.heap = ((w.setCell ⟨p, 2, none⟩ (.int .i64 h')).setCell ⟨p, 1, none⟩ (.int .i64 (k + 1 : Nat))).heap ∧ w'.os = w.os ∧ w'.tape = w.tape ∧ w'.output = w.output := by
  have hb := and255
  have hk' : (k : Int) < (len : Int) := by omega
  go_enter Tryd.func38, Tryd.ntmps38
  go_wp2
  go_quiet (fail)
  go_wp2
  go_quiet (fail)
  go_wp2
  go_quiet (fail)
  go_wp2
  go_ret
  exact ⟨_, _, Int.emod_nonneg _ (by decide), Int.emod_lt_of_pos _ (by decide), rfl, rfl, rfl, rfl, rfl⟩

theorem cell_other (w : World) (p i j : Nat) (v : Value) (h : i ≠ j) : (w.setCell ⟨p, i, none⟩ v).cell? ⟨p, j, none⟩ = w.cell? ⟨p, j, none⟩ :=
  World.cell?_setCell_other (w := w) (a := ⟨p, i, none⟩) (b := ⟨p, j, none⟩) (v := v) (h := fun e => h (congrArg Addr.off e))
theorem cell_same (w : World) (p i : Nat) (u v : Value) (h : w.cell? ⟨p, i, none⟩ = some u) : (w.setCell ⟨p, i, none⟩ v).cell? ⟨p, i, none⟩ = some v :=
  World.cell?_setCell_same (w := w) (a := ⟨p, i, none⟩) (v := v) (h := h)

/-- Only block p may have changed; new ones may have come. -/
def Only (p : Nat) (w w' : World) : Prop := w.heap.size ≤ w'.heap.size ∧ ∀ k, k < w.heap.size → k ≠ p → w'.heap[k]? = w.heap[k]?

theorem Only.refl (p : Nat) (w : World) : Only p w w := ⟨Nat.le_refl _, fun _ _ _ => rfl⟩
theorem Only.trans {p : Nat} {a b c : World} (h : Only p a b) (k : Only p b c) : Only p a c :=
  ⟨Nat.le_trans h.1 k.1, fun i hi hp => (k.2 i (Nat.lt_of_lt_of_le hi h.1) hp).trans (h.2 i hi hp)⟩
theorem Only.alloc {p : Nat} {a b : World} (h : Only p a b) (o : Obj) : Only p a (b.alloc o) :=
  h.trans ⟨by simp, fun k hk _ => Below.heap_alloc _ _ _ hk⟩
theorem Only.cell {p : Nat} {w w' : World} (h : Only p w w') {q i : Nat} (hq : q < w.heap.size) (hp : q ≠ p) : w'.cell? ⟨q, i, none⟩ = w.cell? ⟨q, i, none⟩ :=
  World.cell?_of_block (w := w) (h.2 q hq hp)

/-- What a drawing came from: nothing, or a row of bytes that the first world holds. -/
def Code (C : Option Addr) (len : Nat) (w0 : World) : Prop :=
  len ≤ 9223372036854775807 ∧ (len = 0 ∨ ∃ b off, C = some ⟨b, off, none⟩ ∧ ∀ j, j < len → ∃ y, w0.cell? ⟨b, off + j, none⟩ = some (.int .u8 y))

theorem Code.later {C : Option Addr} {len : Nat} {w0 w : World} (h : Code C len w0) (hb : Below w0.heap.size w0 w) : Code C len w := by
  obtain ⟨hm, h | ⟨b, off, e, hrow⟩⟩ := h
  · exact ⟨hm, .inl h⟩
  · refine ⟨hm, .inr ⟨b, off, e, fun j hj => ?_⟩⟩
    obtain ⟨y, hy⟩ := hrow j hj
    exact ⟨y, by rw [hb.cell (block_lt_of_cell hy)]; exact hy⟩

theorem code_of_row {w : World} {a : Option Addr} {len cap : Nat} {zs : List Int}
    (h : (a = none ∧ len = 0 ∧ cap = 0 ∧ zs = []) ∨ ∃ x, a = some x ∧ len ≤ cap ∧ cap ≤ maxLen ∧ zs.length = cap ∧ (∀ i, i < zs.length → w.cell? (x.add i) = some (.int .u8 (zs.getD i 0))) ∧ ∀ n ∈ zs, (Lit.int .u8 n).wf = true) : Code a len w := by
  rcases h with ⟨_, rfl, _, _⟩ | ⟨x, rfl, hl, hm, hz, hcell, _⟩
  · exact ⟨by omega, .inl rfl⟩
  · unfold maxLen at hm
    refine ⟨by omega, ?_⟩
    by_cases h0 : len = 0
    · exact .inl h0
    · obtain ⟨b, off, spot⟩ := x
      have hc := hcell 0 (by omega)
      have hspot : spot = none := by simpa [Addr.add] using World.cell?_spot hc
      subst hspot
      refine .inr ⟨b, off, rfl, fun j hj => ⟨zs.getD j 0, ?_⟩⟩
      have hadd : (⟨b, off, none⟩ : Addr).add j = ⟨b, off + j, none⟩ := by unfold Addr.add; split <;> simp_all
      rw [← hadd]
      exact hcell j (by omega)

/-- The cursor in block p: its slice, its place, its state; below the first world's end nothing has changed. -/
structure Cur (C : Option Addr) (len cap p : Nat) (w0 w : World) : Prop where
  code : Code C len w0
  bel : Below w0.heap.size w0 w
  new : w0.heap.size ≤ p
  row : ∃ (k : Nat) (h : Int), k ≤ len ∧ w.cell? ⟨p, 0, none⟩ = some (.slice C len cap) ∧ w.cell? ⟨p, 1, none⟩ = some (.int .i64 k) ∧ w.cell? ⟨p, 2, none⟩ = some (.int .i64 h)
  f1 : w.frozen? ⟨p, 1, none⟩ = false
  f2 : w.frozen? ⟨p, 2, none⟩ = false

theorem Cur.lt {C : Option Addr} {len cap p : Nat} {w0 w : World} (h : Cur C len cap p w0 w) : p < w.heap.size := by
  obtain ⟨_, _, _, c, _, _⟩ := h.row
  exact block_lt_of_cell c

theorem Cur.alloc {C : Option Addr} {len cap p : Nat} {w0 w : World} (h : Cur C len cap p w0 w) (o : Obj) : Cur C len cap p w0 (w.alloc o) := by
  have hl := h.lt
  have hs := h.bel.size
  refine ⟨h.code, h.bel.alloc hs o, h.new, ?_, ?_, ?_⟩
  · obtain ⟨k, s, hk, c0, c1, c2⟩ := h.row
    exact ⟨k, s, hk, by rw [World.cell?_alloc_past (w := w) o p 0 hl]; exact c0, by rw [World.cell?_alloc_past (w := w) o p 1 hl]; exact c1, by rw [World.cell?_alloc_past (w := w) o p 2 hl]; exact c2⟩
  · rw [World.frozen?_alloc_past (w := w) o p 1 hl]; exact h.f1
  · rw [World.frozen?_alloc_past (w := w) o p 2 hl]; exact h.f2

/-- The new world's blocks are those of a world with a store at the cursor. -/
theorem Cur.of_heap {C : Option Addr} {len cap p : Nat} {w0 w w1 w' : World} (h : Cur C len cap p w0 w1) (hh : w'.heap = w1.heap) (ho : w'.os = w1.os) (ht : w'.tape = w1.tape) (hu : w'.output = w1.output) (hn : Only p w w1) : Cur C len cap p w0 w' ∧ Only p w w' := by
  have hc : ∀ a, w'.cell? a = w1.cell? a := fun a => World.cell?_of_block (w := w1) (by rw [hh])
  have hf : ∀ a, w'.frozen? a = w1.frozen? a := fun a => World.frozen?_of_block (w := w1) (by rw [hh])
  refine ⟨⟨h.code, ⟨ho.trans h.bel.os, ht.trans h.bel.tape, hu.trans h.bel.output, by rw [hh]; exact h.bel.size, fun k hk => by rw [hh]; exact h.bel.block k hk⟩, h.new, ?_, by rw [hf]; exact h.f1, by rw [hf]; exact h.f2⟩, by rw [hh]; exact hn.1, fun k hk hp => by rw [hh]; exact hn.2 k hk hp⟩
  obtain ⟨k, s, hk, c0, c1, c2⟩ := h.row
  exact ⟨k, s, hk, by rw [hc]; exact c0, by rw [hc]; exact c1, by rw [hc]; exact c2⟩

theorem byte_calls (C : Option Addr) (len cap p : Nat) (w0 w : World) (h : Cur C len cap p w0 w) :
    Calls Tryd.prog 38 #[.pointer (some ⟨p, 0, none⟩)] w fun e w' => ∃ x : Int, 0 ≤ x ∧ x < 256 ∧ e = .returned (.int .i64 x) ∧ Cur C len cap p w0 w' ∧ Only p w w' := by
  obtain ⟨k, s, hk, c0, c1, c2⟩ := h.row
  obtain ⟨hm, hcode⟩ := h.code
  have hl := h.lt
  have only1 : ∀ (v : Value) (i : Nat), Only p w (w.setCell ⟨p, i, none⟩ v) := fun v i => ⟨by simp, fun j _ hj => Below.heap_setCell _ _ _ _ hj⟩
  by_cases hlt : k < len
  · rcases hcode with rfl | ⟨b, off, rfl, hrow⟩
    · omega
    obtain ⟨y, hy⟩ := hrow k hlt
    have hb : b < w0.heap.size := block_lt_of_cell hy
    have hy' : w.cell? ⟨b, off + k, none⟩ = some (.int .u8 y) := by rw [h.bel.cell hb]; exact hy
    refine (byteMore p b off len cap k s y w c0 c1 c2 h.f1 h.f2 hlt hm (by have := h.new; omega) hy').mono ?_
    rintro e w' ⟨x, h', hx0, hx1, rfl, hh, ho, ht, hu⟩
    refine ⟨x, hx0, hx1, rfl, ?_⟩
    refine Cur.of_heap (w1 := (w.setCell ⟨p, 2, none⟩ (.int .i64 h')).setCell ⟨p, 1, none⟩ (.int .i64 (k + 1 : Nat))) ?_ hh ho ht hu ?_
    · refine ⟨h.code, (h.bel.setCell (p := ⟨p, 2, none⟩) h.new _).setCell (p := ⟨p, 1, none⟩) h.new _, h.new, ⟨k + 1, h', hlt, ?_, ?_, ?_⟩, ?_, ?_⟩
      · rw [cell_other _ p 1 0 _ (by decide), cell_other _ p 2 0 _ (by decide)]; exact c0
      · exact cell_same _ p 1 _ _ (by rw [cell_other _ p 2 1 _ (by decide)]; exact c1)
      · rw [cell_other _ p 1 2 _ (by decide)]; exact cell_same _ p 2 _ _ c2
      · rw [World.frozen?_setCell, World.frozen?_setCell]; exact h.f1
      · rw [World.frozen?_setCell, World.frozen?_setCell]; exact h.f2
    · exact (only1 _ 2).trans ⟨by simp, fun j _ hj => Below.heap_setCell _ _ _ _ hj⟩
  · refine (byteEnd p C len cap k s w c0 c1 c2 h.f2 (by omega)).mono ?_
    rintro e w' ⟨x, h', hx0, hx1, rfl, hh, ho, ht, hu⟩
    refine ⟨x, hx0, hx1, rfl, ?_⟩
    refine Cur.of_heap (w1 := w.setCell ⟨p, 2, none⟩ (.int .i64 h')) ?_ hh ho ht hu (only1 _ 2)
    refine ⟨h.code, h.bel.setCell (p := ⟨p, 2, none⟩) h.new _, h.new, ⟨k, h', hk, ?_, ?_, ?_⟩, ?_, ?_⟩
    · rw [cell_other _ p 2 0 _ (by decide)]; exact c0
    · rw [cell_other _ p 2 1 _ (by decide)]; exact c1
    · exact cell_same _ p 2 _ _ c2
    · rw [World.frozen?_setCell]; exact h.f1
    · rw [World.frozen?_setCell]; exact h.f2
end Go.Proofs.YtkfbgghkcojdpaaDoor
