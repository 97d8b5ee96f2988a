/- impl.InsOk: what it answers. -/
import Derived.Test.YtcencddbdidjjaaGreatDoorInsB
import Derived.Test.YtcencddbdidjjaaGreatDoorInsD
import Derived.Lib.QuietBelow
namespace Go.Proofs.YtcencddbdidjjaaGreatDoor
set_option linter.unusedVariables false

open Go.ChangeShapes Go.WideShapes Go.ChangeAt Go.RowKit

theorem belowL {B : Nat} {a w : World} (h : Below B a.drew w) : Below B a w := ⟨h.os, h.tape, h.output, h.size, h.block⟩
theorem belowR {B : Nat} {a w : World} (h : Below B a w) : Below B a w.drew := ⟨h.os, h.tape, h.output, h.size, h.block⟩
theorem same_below {f : FuncId} {args : Array Value} {w : World} {v : Value} (h : Calls Tryz.prog f args w fun e w' => e = .returned v ∧ w' = w) : Calls Tryz.prog f args w fun e w' => e = .returned v ∧ Below w.heap.size w w' :=
  h.mono fun _ _ ⟨he, hw⟩ => ⟨he, hw ▸ Below.refl _ _⟩
theorem keepI {B : Nat} {o k a b : Int} {T C N Y : ByteArray} {v : Value} {W W' : World}
    (h : W.cell? ⟨B, 0, none⟩ = some (.int .i64 o) ∧ W.cell? ⟨B, 1, none⟩ = some (.int .i64 k) ∧ W.cell? ⟨B, 2, none⟩ = some (.int .i64 a) ∧ W.cell? ⟨B, 3, none⟩ = some (.int .i64 b) ∧ W.cell? ⟨B, 4, none⟩ = some (.string T) ∧ W.cell? ⟨B, 5, none⟩ = some (.string C) ∧ W.cell? ⟨B, 6, none⟩ = some (.string N) ∧ W.cell? ⟨B, 7, none⟩ = some (.string Y) ∧ W.cell? ⟨B, 8, none⟩ = some v)
    (hb : Below W.heap.size W W') :
    W'.cell? ⟨B, 0, none⟩ = some (.int .i64 o) ∧ W'.cell? ⟨B, 1, none⟩ = some (.int .i64 k) ∧ W'.cell? ⟨B, 2, none⟩ = some (.int .i64 a) ∧ W'.cell? ⟨B, 3, none⟩ = some (.int .i64 b) ∧ W'.cell? ⟨B, 4, none⟩ = some (.string T) ∧ W'.cell? ⟨B, 5, none⟩ = some (.string C) ∧ W'.cell? ⟨B, 6, none⟩ = some (.string N) ∧ W'.cell? ⟨B, 7, none⟩ = some (.string Y) ∧ W'.cell? ⟨B, 8, none⟩ = some v := by
  obtain ⟨h1, h2, h3, h4, h5, h6, h7, h8, h9⟩ := h
  have k : ∀ (p : Addr) (v : Value), W.cell? p = some v → W'.cell? p = some v := fun p v hv => by
    rw [hb.cell (p := p) (World.block_lt_of_cell? W p hv)]; exact hv
  exact ⟨k _ _ h1, k _ _ h2, k _ _ h3, k _ _ h4, k _ _ h5, k _ _ h6, k _ _ h7, k _ _ h8, k _ _ h9⟩
theorem startI {o k a b : Int} {T C N Y : ByteArray} {v : Value} {w W : World} (hW : W = w.alloc (.cells #[.int .i64 o, .int .i64 k, .int .i64 a, .int .i64 b, .string T, .string C, .string N, .string Y, v] 27)) :
    W.cell? ⟨w.heap.size, 0, none⟩ = some (.int .i64 o) ∧ W.cell? ⟨w.heap.size, 1, none⟩ = some (.int .i64 k) ∧ W.cell? ⟨w.heap.size, 2, none⟩ = some (.int .i64 a) ∧ W.cell? ⟨w.heap.size, 3, none⟩ = some (.int .i64 b) ∧ W.cell? ⟨w.heap.size, 4, none⟩ = some (.string T) ∧ W.cell? ⟨w.heap.size, 5, none⟩ = some (.string C) ∧ W.cell? ⟨w.heap.size, 6, none⟩ = some (.string N) ∧ W.cell? ⟨w.heap.size, 7, none⟩ = some (.string Y) ∧ W.cell? ⟨w.heap.size, 8, none⟩ = some v := by
  have h1 : W.heap[w.heap.size]? = some (.cells #[.int .i64 o, .int .i64 k, .int .i64 a, .int .i64 b, .string T, .string C, .string N, .string Y, v] 27) := by rw [hW]; exact heap_alloc_last w _
  refine ⟨?_, ?_, ?_, ?_, ?_, ?_, ?_, ?_, ?_⟩ <;> simp [World.cell?, h1]

set_option maxRecDepth 1000000 in
set_option maxHeartbeats 1000000 in
theorem insRegion (x y z : Bool) (o k a b p size locals : Int) (T C N Y : ByteArray) (ta : Option Addr) (n c : Nat) (w : World)
    (hbet : Hid (∀ W, Calls Tryz.prog 36 #[.int .i64 o, .int .i64 1, .int .i64 44] W fun e w' => e = .returned (.bool x) ∧ w' = W))
    (hpar : Hid (∀ W, Calls Tryz.prog 38 #[.int .i64 o] W fun e w' => e = .returned (.int .i64 p) ∧ w' = W))
    (hnon : Hid (∀ W, Calls Tryz.prog 37 #[insV o k a b T C N Y (.slice ta n c), .int .i64 p] W fun e w' => e = .returned (.bool y) ∧ Below W.heap.size W w'))
    (hcon : Hid (∀ W, Below w.heap.size w W → Calls Tryz.prog 39 #[insV o k a b T C N Y (.slice ta n c), .int .i64 size, .int .i64 locals] W fun e w' => e = .returned (.bool z) ∧ Below W.heap.size W w')) :
    Calls Tryz.prog 14 #[insV o k a b T C N Y (.slice ta n c), .int .i64 size, .int .i64 locals] w fun e w' => e = .returned (.bool (x && y && z)) ∧ Below w.heap.size w w' := by
  go_enter Tryz.func14, Tryz.ntmps14
  go_wp2
  obtain ⟨W, hW⟩ : ∃ W : World, W = w.alloc (.cells #[.int .i64 o, .int .i64 k, .int .i64 a, .int .i64 b, .string T, .string C, .string N, .string Y, .slice ta n c] 27) := ⟨_, rfl⟩
  rw [← hW]
  have hbW : Below w.heap.size w W := by rw [hW]; exact below1 _ _
  have hS := startI hW
  obtain ⟨s0, s1, s2, s3, s4, s5, s6, s7, s8⟩ := hS
  have k0 := cell_regrown s0
  have k1 := cell_regrown s1
  have k2 := cell_regrown s2
  have k3 := cell_regrown s3
  have k4 := cell_regrown s4
  have k5 := cell_regrown s5
  have k6 := cell_regrown s6
  have k7 := cell_regrown s7
  have k8 := cell_regrown s8
  have c28 : ∀ d os, Calls Tryz.prog 36 #[.int .i64 o, .int .i64 1, .int .i64 44] (Sort.grow (redrawn W d) os) fun e w'' => e = .returned (.bool x) ∧ ∃ p : Regrown, w'' = Sort.grow (redrawn W p.d) p.os := fun d os => Calls.regrown_of (same_below (hbet.out _))
  have c30 : ∀ d os, Calls Tryz.prog 38 #[.int .i64 o] (Sort.grow (redrawn W d) os) fun e w'' => e = .returned (.int .i64 p) ∧ ∃ p : Regrown, w'' = Sort.grow (redrawn W p.d) p.os := fun d os => Calls.regrown_of (same_below (hpar.out _))
  have c29 : ∀ d os, Calls Tryz.prog 37 #[insV o k a b T C N Y (.slice ta n c), .int .i64 p] (Sort.grow (redrawn W d) os) fun e w'' => e = .returned (.bool y) ∧ ∃ p : Regrown, w'' = Sort.grow (redrawn W p.d) p.os := fun d os => Calls.regrown_of (hnon.out _)
  have c31 : ∀ d os, Calls Tryz.prog 39 #[insV o k a b T C N Y (.slice ta n c), .int .i64 size, .int .i64 locals] (Sort.grow (redrawn W d) os) fun e w'' => e = .returned (.bool z) ∧ ∃ p : Regrown, w'' = Sort.grow (redrawn W p.d) p.os := fun d os => Calls.regrown_of (hcon.out _ (hbW.trans ((below_regrown W d os).mono hbW.size)))
  have hbH : Hid (Below w.heap.size w W) := hbW
  clear hW hbet hpar hnon hcon s0 s1 s2 s3 s4 s5 s6 s7 s8 hbW
  cases x with
  | false =>
    refine wp_region_quiet_below (by kernel_rfl) (by kernel_rfl) ?_
    repeat (quiet_step (first | exact c28 _ _ | exact c30 _ _ | exact c29 _ _ | exact c31 _ _))
    refine wpQuiet_nil ?_
    intro _ hw'
    obtain ⟨⟨dq, osq⟩, hw''⟩ := hw'
    subst hw''
    go_wp2
    go_ret
    exact ⟨rfl, hbH.out.trans ((below_regrown W dq osq).mono hbH.out.size)⟩
  | true =>
    cases y with
    | false =>
      refine wp_region_quiet_below (by kernel_rfl) (by kernel_rfl) ?_
      repeat (quiet_step (first | exact c28 _ _ | exact c30 _ _ | exact c29 _ _ | exact c31 _ _))
      refine wpQuiet_nil ?_
      intro _ hw'
      obtain ⟨⟨dq, osq⟩, hw''⟩ := hw'
      subst hw''
      go_wp2
      go_ret
      exact ⟨rfl, hbH.out.trans ((below_regrown W dq osq).mono hbH.out.size)⟩
    | true =>
      refine wp_region_quiet_below (by kernel_rfl) (by kernel_rfl) ?_
      repeat (quiet_step (first | exact c28 _ _ | exact c30 _ _ | exact c29 _ _ | exact c31 _ _))
      refine wpQuiet_nil ?_
      intro _ hw'
      obtain ⟨⟨dq, osq⟩, hw''⟩ := hw'
      subst hw''
      go_wp2
      go_ret
      exact ⟨rfl, hbH.out.trans ((below_regrown W dq osq).mono hbH.out.size)⟩
end Go.Proofs.YtcencddbdidjjaaGreatDoor
