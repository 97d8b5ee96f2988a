import Derived.Test.YtjjccimeikkogaaGreatDoorInsD
import Derived.Lib.QuietBelow
set_option maxRecDepth 1000000
set_option maxHeartbeats 8000000
namespace Go.Proofs.YtjjccimeikkogaaGreatDoor
set_option linter.unusedVariables false
open Go.ChangeShapes Go.WideShapes Go.ChangeAt Go.RowKit
theorem same_below {f : FuncId} {args : Array Value} {w : World} {v : Value} (h : Calls Tryz.prog f args w fun e w' => e = .returned v ∧ w' = w) : Calls Tryz.prog f args w fun e w' => e = .returned v ∧ Below w.heap.size w w' :=
 h.mono fun _ _ ⟨he, hw⟩ => ⟨he, hw ▸ Below.refl _ _⟩
theorem startI {o k a b : Int} {T C N Y : ByteArray} {v : Value} {w W : World} (hW : W = w.alloc (.cells #[.int .i64 o, .int .i64 k, .int .i64 a, .int .i64 b, .string T, .string C, .string N, .string Y, v] 110)) :
  W.cell? ⟨w.heap.size, 0, none⟩ = some (.int .i64 o) ∧ W.cell? ⟨w.heap.size, 1, none⟩ = some (.int .i64 k) ∧ W.cell? ⟨w.heap.size, 2, none⟩ = some (.int .i64 a) ∧ W.cell? ⟨w.heap.size, 3, none⟩ = some (.int .i64 b) ∧ W.cell? ⟨w.heap.size, 4, none⟩ = some (.string T) ∧ W.cell? ⟨w.heap.size, 5, none⟩ = some (.string C) ∧ W.cell? ⟨w.heap.size, 6, none⟩ = some (.string N) ∧ W.cell? ⟨w.heap.size, 7, none⟩ = some (.string Y) ∧ W.cell? ⟨w.heap.size, 8, none⟩ = some v := by
 have h1 : W.heap[w.heap.size]? = some (.cells #[.int .i64 o, .int .i64 k, .int .i64 a, .int .i64 b, .string T, .string C, .string N, .string Y, v] 110) := by rw [hW]; exact heap_alloc_last w _
 refine ⟨?_, ?_, ?_, ?_, ?_, ?_, ?_, ?_, ?_⟩ <;> simp [World.cell?, h1]
theorem insRegion (x y z : Bool) (o k a b p size locals : Int) (T C N Y : ByteArray) (ta : Option Addr) (n c : Nat) (w : World)
  (hbet : Hid (∀ W, Calls Tryz.prog 181 #[.int .i64 o, .int .i64 1, .int .i64 44] W fun e w' => e = .returned (.bool x) ∧ w' = W))
  (hpar : Hid (∀ W, Calls Tryz.prog 214 #[.int .i64 o] W fun e w' => e = .returned (.int .i64 p) ∧ w' = W))
  (hnon : Hid (∀ W, Calls Tryz.prog 213 #[insV o k a b T C N Y (.slice ta n c), .int .i64 p] W fun e w' => e = .returned (.bool y) ∧ Below W.heap.size W w'))
  (hcon : Hid (∀ W, Below w.heap.size w W → Calls Tryz.prog 215 #[insV o k a b T C N Y (.slice ta n c), .int .i64 size, .int .i64 locals] W fun e w' => e = .returned (.bool z) ∧ Below W.heap.size W w')) :
  Calls Tryz.prog 195 #[insV o k a b T C N Y (.slice ta n c), .int .i64 size, .int .i64 locals] w fun e w' => e = .returned (.bool (x && y && z)) ∧ Below w.heap.size w w' := by
 go_enter Tryz.func195, Tryz.ntmps195
 go_wp2
 obtain ⟨W, hW⟩ : ∃ W : World, W = w.alloc (.cells #[.int .i64 o, .int .i64 k, .int .i64 a, .int .i64 b, .string T, .string C, .string N, .string Y, .slice ta n c] 110) := ⟨_, rfl⟩
 rw [← hW]
 have hbW : Below w.heap.size w W := by rw [hW]; exact below1 _ _
 have hS := startI hW
 obtain ⟨s0, s1, s2, s3, s4, s5, s6, s7, s8⟩ := hS
 have k0 := cell_regrown s0
 have k1 := cell_regrown s1
 have k2 := cell_regrown s2
 have k3 := cell_regrown s3
 have k4 := cell_regrown s4
 have k5 := cell_regrown s5
 have k6 := cell_regrown s6
 have k7 := cell_regrown s7
 have k8 := cell_regrown s8
 have c28 : ∀ d os, Calls Tryz.prog 181 #[.int .i64 o, .int .i64 1, .int .i64 44] (Sort.grow (redrawn W d) os) fun e w'' => e = .returned (.bool x) ∧ ∃ p : Regrown, w'' = Sort.grow (redrawn W p.d) p.os := fun d os => Calls.regrown_of (same_below (hbet.out _))
 have c30 : ∀ d os, Calls Tryz.prog 214 #[.int .i64 o] (Sort.grow (redrawn W d) os) fun e w'' => e = .returned (.int .i64 p) ∧ ∃ p : Regrown, w'' = Sort.grow (redrawn W p.d) p.os := fun d os => Calls.regrown_of (same_below (hpar.out _))
 have c29 : ∀ d os, Calls Tryz.prog 213 #[insV o k a b T C N Y (.slice ta n c), .int .i64 p] (Sort.grow (redrawn W d) os) fun e w'' => e = .returned (.bool y) ∧ ∃ p : Regrown, w'' = Sort.grow (redrawn W p.d) p.os := fun d os => Calls.regrown_of (hnon.out _)
 have c31 : ∀ d os, Calls Tryz.prog 215 #[insV o k a b T C N Y (.slice ta n c), .int .i64 size, .int .i64 locals] (Sort.grow (redrawn W d) os) fun e w'' => e = .returned (.bool z) ∧ ∃ p : Regrown, w'' = Sort.grow (redrawn W p.d) p.os := fun d os => Calls.regrown_of (hcon.out _ (hbW.trans ((below_regrown W d os).mono hbW.size)))
 have hbH : Hid (Below w.heap.size w W) := hbW
 clear hW hbet hpar hnon hcon s0 s1 s2 s3 s4 s5 s6 s7 s8 hbW
 cases x with
 | false =>
  refine wp_region_quiet_below (by kernel_rfl) (by kernel_rfl) ?_
  repeat (quiet_step (first | exact c28 _ _ | exact c30 _ _ | exact c29 _ _ | exact c31 _ _))
  refine wpQuiet_nil ?_
  intro _ hw'
  obtain ⟨⟨dq, osq⟩, hw''⟩ := hw'
  subst hw''
  go_wp2
  go_ret
  exact ⟨rfl, hbH.out.trans ((below_regrown W dq osq).mono hbH.out.size)⟩
 | true =>
  cases y with
  | false =>
   refine wp_region_quiet_below (by kernel_rfl) (by kernel_rfl) ?_
   repeat (quiet_step (first | exact c28 _ _ | exact c30 _ _ | exact c29 _ _ | exact c31 _ _))
   refine wpQuiet_nil ?_
   intro _ hw'
   obtain ⟨⟨dq, osq⟩, hw''⟩ := hw'
   subst hw''
   go_wp2
   go_ret
   exact ⟨rfl, hbH.out.trans ((below_regrown W dq osq).mono hbH.out.size)⟩
  | true =>
   refine wp_region_quiet_below (by kernel_rfl) (by kernel_rfl) ?_
   repeat (quiet_step (first | exact c28 _ _ | exact c30 _ _ | exact c29 _ _ | exact c31 _ _))
   refine wpQuiet_nil ?_
   intro _ hw'
   obtain ⟨⟨dq, osq⟩, hw''⟩ := hw'
   subst hw''
   go_wp2
   go_ret
   exact ⟨rfl, hbH.out.trans ((below_regrown W dq osq).mono hbH.out.size)⟩
def onlyV (o k a b : Int) (T C N Y : ByteArray) (v : Value) : Value :=
 if o = 1 ∨ o = 24 ∨ o = 4 ∨ o = 5 then insV o k a 0 ⟨#[]⟩ ⟨#[]⟩ ⟨#[]⟩ ⟨#[]⟩ (.slice none 0 0)
 else if o = 2 then insV o 0 0 0 T ⟨#[]⟩ ⟨#[]⟩ ⟨#[]⟩ (.slice none 0 0)
 else if o = 6 ∨ (26 ≤ o ∧ o ≤ 29) then insV o 0 a b ⟨#[]⟩ ⟨#[]⟩ ⟨#[]⟩ ⟨#[]⟩ (.slice none 0 0)
 else if o = 25 then insV o 0 a 0 ⟨#[]⟩ ⟨#[]⟩ ⟨#[]⟩ ⟨#[]⟩ (.slice none 0 0)
 else if o = 23 ∧ k = 3 then insV o k 0 b ⟨#[]⟩ ⟨#[]⟩ ⟨#[]⟩ ⟨#[]⟩ (.slice none 0 0)
 else if o = 23 then insV o k 0 0 ⟨#[]⟩ ⟨#[]⟩ ⟨#[]⟩ ⟨#[]⟩ (.slice none 0 0)
 else if o = 30 then insV o 0 a b ⟨#[]⟩ ⟨#[]⟩ ⟨#[]⟩ ⟨#[]⟩ v
 else if 31 ≤ o ∧ o ≤ 33 then insV o 0 0 b ⟨#[]⟩ C N Y (.slice none 0 0)
 else if o = 34 then insV o 0 0 0 ⟨#[]⟩ C ⟨#[]⟩ ⟨#[]⟩ (.slice none 0 0)
 else if o = 35 ∨ o = 39 ∨ o = 40 then insV o 0 0 0 ⟨#[]⟩ ⟨#[]⟩ ⟨#[]⟩ Y (.slice none 0 0)
 else if (o = 37 ∨ o = 38 ∨ o = 44) ∨ (11 ≤ o ∧ o ≤ 22) then insV o k 0 0 ⟨#[]⟩ ⟨#[]⟩ ⟨#[]⟩ ⟨#[]⟩ (.slice none 0 0)
 else insV o 0 0 0 ⟨#[]⟩ ⟨#[]⟩ ⟨#[]⟩ ⟨#[]⟩ (.slice none 0 0)
theorem heap_mid (w : World) (o1 o2 o3 : Obj) : (((w.alloc o1).alloc o2).alloc o3).heap[w.heap.size + 1]? = some o2 := by
 have h := heap_alloc2_old (w.alloc o1) o2 o3
 have e : (w.alloc o1).heap.size = w.heap.size + 1 := by simp
 rwa [e] at h
theorem below3 (w : World) (o1 o2 o3 : Obj) : Below w.heap.size w (((w.alloc o1).alloc o2).alloc o3) := (below2 w o1 o2).alloc (by simp; omega) _
theorem only_calls (o k a b : Int) (T C N Y : ByteArray) (ta : Option Addr) (n c : Nat) (w : World) :
  Calls Tryz.prog 203 #[insV o k a b T C N Y (.slice ta n c)] w fun e w' => e = .returned (onlyV o k a b T C N Y (.slice ta n c)) ∧ Below w.heap.size w w' := by
 obtain ⟨r, hr⟩ : ∃ r, onlyV o k a b T C N Y (.slice ta n c) = r := ⟨_, rfl⟩
 rw [hr]
 have hrH : Hid (onlyV o k a b T C N Y (.slice ta n c) = r) := hr
 clear hr
 go_enter Tryz.func203, Tryz.ntmps203
 go_wp2
 all_goals (
  apply bodyPost_ret
  ·exact results_cell_row rfl _ _ (w.heap.size + 1) 110 _ (0, 0) _ rfl (heap_mid w _ _ _) Tryz.underlying110 rfl (by kernel_rfl)
  ·rfl
  refine ⟨?_, below3 _ _ _ _⟩
  go_light
  rw [← hrH.out]
  simp only [beq_iff_eq, beq_eq_false_iff_ne, ne_eq] at *
  first
   | (exfalso; omega)
   | (unfold onlyV
      repeat (first | rw [if_neg (by omega)] | rw [if_pos (by omega)])
      done)
   | (unfold onlyV
      repeat (first | rw [if_neg (by omega)] | rw [if_pos (by omega)])
      rfl))
theorem Tab.cells {w : World} {zs : List Int} {a : Option Addr} {c : Nat} (h : Tab w (.slice a zs.length c) zs) (k : Nat) (hk : k < zs.length) : ∃ g, a = some ⟨g, 0, none⟩ ∧ w.cell? ⟨g, k, none⟩ = some (.int .i64 zs[k]) := by
 rcases h with ⟨_, rfl⟩ | ⟨g, c', hv, _, hcell⟩
 ·simp at hk
 ·injection hv with h1
  exact ⟨g, h1, hcell k hk⟩
theorem take_step {xs ys : List Int} {k : Nat} (h : xs.take k = ys.take k) (h1 : k < xs.length) (h2 : k < ys.length) (he : xs[k] = ys[k]) : xs.take (k + 1) = ys.take (k + 1) := by
 rw [List.take_succ_eq_append_getElem h1, List.take_succ_eq_append_getElem h2, h, he]
theorem beq_at {xs ys : List Int} {k : Nat} (h1 : k < xs.length) (h2 : k < ys.length) (he : xs[k] ≠ ys[k]) : (xs == ys) = false := by
 rw [beq_eq_false_iff_ne]; intro h; subst h; exact he rfl
theorem beq_len {xs ys : List Int} (h : xs.length ≠ ys.length) : (xs == ys) = false := by
 rw [beq_eq_false_iff_ne]; intro e; exact h (by rw [e])
theorem beq_all {xs ys : List Int} {k : Nat} (h : xs.take k = ys.take k) (h1 : xs.length ≤ k) (h2 : ys.length ≤ k) : (xs == ys) = true := by
 rw [List.take_of_length_le h1, List.take_of_length_le h2] at h; simp [h]
theorem sameInts_calls (u v : Value) (xs ys : List Int) (w : World) (hu : Tab w u xs) (hv : Tab w v ys) (hx : xs.length ≤ 1048576) (hy : ys.length ≤ 1048576) :
  Calls Tryz.prog 222 #[u, v] w fun e w' => e = .returned (.bool (xs == ys)) ∧ ∃ n, w' = w.drewN n := by
 obtain ⟨a, c, rfl⟩ := hu.form
 obtain ⟨a2, c2, rfl⟩ := hv.form
 by_cases hl : xs.length = ys.length
 ·have cu : Hid (∀ k (h : k < xs.length), ∃ g, a = some ⟨g, 0, none⟩ ∧ w.cell? ⟨g, k, none⟩ = some (.int .i64 xs[k])) := hu.cells
  have cv : Hid (∀ k (h : k < ys.length), ∃ g, a2 = some ⟨g, 0, none⟩ ∧ w.cell? ⟨g, k, none⟩ = some (.int .i64 ys[k])) := hv.cells
  clear hu hv
  have hlH : Hid (xs.length = ys.length) := hl
  rw [← hl]
  clear hl
  obtain ⟨r, hr⟩ : ∃ r, (xs == ys) = r := ⟨_, rfl⟩
  rw [hr]
  have hrH : Hid ((xs == ys) = r) := hr
  clear hr
  go_enter Tryz.func222, Tryz.ntmps222
  go_wp2
  go_loopw [5] (fun i wr => ∃ k n : Nat, k ≤ xs.length ∧ i = .int .i64 k ∧ wr = w.drewN n ∧ Hid (xs.take k = ys.take k)) (fun i _ => xs.length - (intOf i).toNat)
  case atStart => exact ⟨0, 0, Nat.zero_le _, rfl, rfl, rfl⟩
  case round =>
   obtain ⟨k, n, hk, rfl, rfl, htk⟩ := hrel
   by_cases hlt : k < xs.length
   ·have hlt2 : k < ys.length := by have := hlH.out; omega
    obtain ⟨g, rfl, hcell⟩ := cu.out k hlt
    obtain ⟨g2, rfl, hcell2⟩ := cv.out k hlt2
    have hlt' : (k : Int) < (xs.length : Int) := by omega
    obtain ⟨x, hx1⟩ : ∃ x, x = xs[k] := ⟨_, rfl⟩
    obtain ⟨y, hy1⟩ : ∃ y, y = ys[k] := ⟨_, rfl⟩
    rw [← hx1] at hcell
    rw [← hy1] at hcell2
    by_cases hxy : x = y
    ·subst hxy
     have hst : Hid (xs.take (k + 1) = ys.take (k + 1)) := take_step htk.out hlt hlt2 (by rw [← hx1, ← hy1])
     clear hx1 hy1
     go_wp2
     go_quiet (fail)
     go_wp2
     go_roundw
     case rel => exact ⟨k + 1, _, by omega, by go_num, rfl, hst⟩
     case measure => simp [intOf]; omega
    ·have hst : Hid ((xs == ys) = false) := beq_at hlt hlt2 (by rw [← hx1, ← hy1]; exact hxy)
     have hxy' : (x != y) = true := by simpa using hxy
     clear hx1 hy1 hxy
     go_wp2
     go_quiet (fail)
     go_wp2
     go_ret
     exact ⟨by rw [← hrH.out, hst.out]; rfl, _, by first | rfl | exact World.drewN_drewN _ _ _⟩
   ·have hst : Hid ((xs == ys) = true) := beq_all htk.out (by omega) (by have := hlH.out; omega)
    go_wp2
    go_ret
    exact ⟨by rw [← hrH.out, hst.out]; rfl, _, rfl⟩
 ·have hr := beq_len hl
  rw [hr]
  have hne : ((xs.length : Int) != (ys.length : Int)) = true := by rw [bne_iff_ne]; omega
  clear hu hv hl hr
  go_enter Tryz.func222, Tryz.ntmps222
  go_wp2
  go_ret
  exact ⟨rfl, 0, rfl⟩
theorem eqInts_calls (u v : Value) (xs ys : List Int) (w : World) (hu : Tab w u xs) (hv : Tab w v ys) (hx : xs.length ≤ 1048576) (hy : ys.length ≤ 1048576) :
  Calls Tryz.prog 185 #[u, v] w fun e w' => e = .returned (.bool (xs == ys)) ∧ ∃ n, w' = w.drewN n := by
 obtain ⟨a, c, rfl⟩ := hu.form
 obtain ⟨a2, c2, rfl⟩ := hv.form
 by_cases hl : xs.length = ys.length
 ·have cu : Hid (∀ k (h : k < xs.length), ∃ g, a = some ⟨g, 0, none⟩ ∧ w.cell? ⟨g, k, none⟩ = some (.int .i64 xs[k])) := hu.cells
  have cv : Hid (∀ k (h : k < ys.length), ∃ g, a2 = some ⟨g, 0, none⟩ ∧ w.cell? ⟨g, k, none⟩ = some (.int .i64 ys[k])) := hv.cells
  clear hu hv
  have hlH : Hid (xs.length = ys.length) := hl
  rw [← hl]
  clear hl
  obtain ⟨r, hr⟩ : ∃ r, (xs == ys) = r := ⟨_, rfl⟩
  rw [hr]
  have hrH : Hid ((xs == ys) = r) := hr
  clear hr
  go_enter Tryz.func185, Tryz.ntmps185
  go_wp2
  go_loopw [5] (fun i wr => ∃ k n : Nat, k ≤ xs.length ∧ i = .int .i64 k ∧ wr = w.drewN n ∧ Hid (xs.take k = ys.take k)) (fun i _ => xs.length - (intOf i).toNat)
  case atStart => exact ⟨0, 0, Nat.zero_le _, rfl, rfl, rfl⟩
  case round =>
   obtain ⟨k, n, hk, rfl, rfl, htk⟩ := hrel
   by_cases hlt : k < xs.length
   ·have hlt2 : k < ys.length := by have := hlH.out; omega
    obtain ⟨g, rfl, hcell⟩ := cu.out k hlt
    obtain ⟨g2, rfl, hcell2⟩ := cv.out k hlt2
    have hlt' : (k : Int) < (xs.length : Int) := by omega
    obtain ⟨x, hx1⟩ : ∃ x, x = xs[k] := ⟨_, rfl⟩
    obtain ⟨y, hy1⟩ : ∃ y, y = ys[k] := ⟨_, rfl⟩
    rw [← hx1] at hcell
    rw [← hy1] at hcell2
    by_cases hxy : x = y
    ·subst hxy
     have hst : Hid (xs.take (k + 1) = ys.take (k + 1)) := take_step htk.out hlt hlt2 (by rw [← hx1, ← hy1])
     clear hx1 hy1
     go_wp2
     go_quiet (fail)
     go_wp2
     go_roundw
     case rel => exact ⟨k + 1, _, by omega, by go_num, rfl, hst⟩
     case measure => simp [intOf]; omega
    ·have hst : Hid ((xs == ys) = false) := beq_at hlt hlt2 (by rw [← hx1, ← hy1]; exact hxy)
     have hxy' : (x != y) = true := by simpa using hxy
     clear hx1 hy1 hxy
     go_wp2
     go_quiet (fail)
     go_wp2
     go_ret
     exact ⟨by rw [← hrH.out, hst.out]; rfl, _, by first | rfl | exact World.drewN_drewN _ _ _⟩
   ·have hst : Hid ((xs == ys) = true) := beq_all htk.out (by omega) (by have := hlH.out; omega)
    go_wp2
    go_ret
    exact ⟨by rw [← hrH.out, hst.out]; rfl, _, rfl⟩
 ·have hr := beq_len hl
  rw [hr]
  have hne : ((xs.length : Int) != (ys.length : Int)) = true := by rw [bne_iff_ne]; omega
  clear hu hv hl hr
  go_enter Tryz.func185, Tryz.ntmps185
  go_wp2
  go_ret
  exact ⟨rfl, 0, rfl⟩
def sameB (o k a b o' k' a' b' : Int) (T C N Y T' C' N' Y' : ByteArray) (zs ys : List Int) : Bool :=
 o == o' && k == k' && a == a' && b == b' && T.toList == T'.toList && C.toList == C'.toList && N.toList == N'.toList && Y.toList == Y'.toList && zs == ys
theorem sameIns_calls (o k a b o' k' a' b' : Int) (T C N Y T' C' N' Y' : ByteArray) (u v : Value) (zs ys : List Int) (w : World) (hu : Tab w u zs) (hv : Tab w v ys) (hx : zs.length ≤ 1048576) (hy : ys.length ≤ 1048576) :
  Calls Tryz.prog 202 #[insV o k a b T C N Y u, insV o' k' a' b' T' C' N' Y' v] w fun e w' => e = .returned (.bool (sameB o k a b o' k' a' b' T C N Y T' C' N' Y' zs ys)) ∧ Below w.heap.size w w' := by
 have intsH : Hid (∀ W, Below w.heap.size w W → Calls Tryz.prog 222 #[u, v] W fun e w' => e = .returned (.bool (zs == ys)) ∧ ∃ n, w' = W.drewN n) := fun W hW => sameInts_calls u v zs ys W (hu.kept hW) (hv.kept hW) hx hy
 obtain ⟨ta, c, rfl⟩ := hu.form
 obtain ⟨ta', c', rfl⟩ := hv.form
 clear hu hv hx hy
 obtain ⟨r, hr⟩ : ∃ r, sameB o k a b o' k' a' b' T C N Y T' C' N' Y' zs ys = r := ⟨_, rfl⟩
 rw [hr]
 have hrH : Hid (sameB o k a b o' k' a' b' T C N Y T' C' N' Y' zs ys = r) := hr
 clear hr
 go_enter Tryz.func202, Tryz.ntmps202
 go_wp2_with (go_at_call 222; refine (intsH.out _ (below2 _ _ _)).mono ?_; rintro e w1 ⟨rfl, nq, rfl⟩)
 all_goals (
  go_ret
  refine ⟨?_, by first | exact below2 _ _ _ | exact below2n _ _ _ _⟩
  go_light
  rw [← hrH.out]
  clear hrH intsH
  first | rfl | (simp_all [sameB]; done))
end Go.Proofs.YtjjccimeikkogaaGreatDoor
