/- impl.LitmusOk, walked: acts, locks, threads, the test. -/
import Derived.Test.YtknbchheoloaoaaGreatLtD
import Derived.Lib.QuietBelow
namespace Go.Proofs.YtknbchheoloaoaaGreat
set_option linter.unusedVariables false
open Go.ChangeShapes Go.WideShapes Go.ChangeAt Go.RowKit

set_option maxRecDepth 1000000 in
theorem betweenI_calls (a lo hi : Int) (w : World) : Calls Tryz.prog 47 #[.int .i64 a, .int .i64 lo, .int .i64 hi] w fun e w' => e = .returned (.bool (btw a lo hi)) ∧ w' = w := by
 by_cases h1 : lo ≤ a
 ·by_cases h2 : a ≤ hi
  ·have hb : btw a lo hi = true := by simp [btw, h1, h2]
   go_enter Tryz.func47, Tryz.ntmps47
   go_wp2
   go_ret
   exact ⟨by first | rfl | (rw [hb]; rfl), rfl⟩
  ·have hb : btw a lo hi = false := by simp [btw, h2]
   go_enter Tryz.func47, Tryz.ntmps47
   go_wp2
   go_ret
   exact ⟨by first | rfl | (rw [hb]; rfl), rfl⟩
 ·have hb : btw a lo hi = false := by simp [btw, h1]
  go_enter Tryz.func47, Tryz.ntmps47
  go_wp2
  go_ret
  exact ⟨by first | rfl | (rw [hb]; rfl), rfl⟩

set_option maxRecDepth 1000000 in
theorem isL_calls (a : ActL) (w : World) : Calls Tryz.prog 69 #[.agg #[.int .i64 a.kind, .int .i64 a.var, .int .i64 a.n]] w fun e w' => e = .returned (.bool (isL a)) ∧ Below w.heap.size w w' := by
 obtain ⟨k, v, n⟩ := a
 have h : Hid (isL ⟨k, v, n⟩ = (k == 4 || k == 5)) := rfl
 generalize isL ⟨k, v, n⟩ = r at h ⊢
 by_cases k4 : k = 4
 ·subst k4
  go_enter Tryz.func69, Tryz.ntmps69
  go_wp2
  go_ret
  exact ⟨by rw [h.out]; rfl, below_1 _ _⟩
 ·have kb : (k == 4) = false := by simpa using k4
  by_cases k5 : k = 5
  ·subst k5
   go_enter Tryz.func69, Tryz.ntmps69
   go_wp2
   go_ret
   exact ⟨by rw [h.out]; rfl, below_1 _ _⟩
  ·have kb5 : (k == 5) = false := by simpa using k5
   go_enter Tryz.func69, Tryz.ntmps69
   go_wp2
   go_ret
   exact ⟨by rw [h.out, kb, kb5]; rfl, below_1 _ _⟩

set_option maxRecDepth 1000000 in
set_option maxHeartbeats 2000000 in
theorem actC_calls (vars vol locks : Int) (ta : Option Addr) (tn tc : Nat) (a : ActL) (w : World) (hv0 : 0 ≤ vars) (hv1 : vars ≤ 4) (hl0 : 0 ≤ locks) (hl1 : locks ≤ 2) :
  Calls Tryz.prog 68 #[.agg #[.int .i64 vars, .int .i64 vol, .int .i64 locks, .slice ta tn tc], .agg #[.int .i64 a.kind, .int .i64 a.var, .int .i64 a.n]] w fun e w' => e = .returned (.bool (actC vars locks a)) ∧ Below w.heap.size w w' := by
 obtain ⟨k, v, n⟩ := a
 have hfin : Hid (∀ b1 b2 : Obj, Below w.heap.size w ((w.alloc b1).alloc b2)) := fun b1 b2 => below_on (below_1 w b1) (below_1 _ b2)
 by_cases k1 : k = 1
 ·subst k1
  have h : Hid (actC vars locks ⟨1, v, n⟩ = (btw v 0 (vars - 1) && n == 0)) := by show _ = _; simp [actC]
  generalize actC vars locks ⟨1, v, n⟩ = r at h ⊢
  cases hb : btw v 0 (vars - 1)
  ·have hr : Hid (r = false) := by show _ = _; rw [h.out, hb]; rfl
   clear h
   go_enter Tryz.func68, Tryz.ntmps68
   go_wp2_with (go_at_call 47; refine (betweenI_calls _ _ _ _).mono ?_; rintro e w' ⟨rfl, rfl⟩)
   go_ret
   exact ⟨by rw [hr.out]; rfl, hfin.out _ _⟩
  ·by_cases hn : n = 0
   ·subst hn
    have hr : Hid (r = true) := by show _ = _; rw [h.out, hb]; rfl
    clear h
    go_enter Tryz.func68, Tryz.ntmps68
    go_wp2_with (go_at_call 47; refine (betweenI_calls _ _ _ _).mono ?_; rintro e w' ⟨rfl, rfl⟩)
    go_ret
    exact ⟨by rw [hr.out]; rfl, hfin.out _ _⟩
   ·have hnb : (n == 0) = false := by simpa using hn
    have hr : Hid (r = false) := by show _ = _; rw [h.out, hb, hnb]; rfl
    clear h
    go_enter Tryz.func68, Tryz.ntmps68
    go_wp2_with (go_at_call 47; refine (betweenI_calls _ _ _ _).mono ?_; rintro e w' ⟨rfl, rfl⟩)
    go_ret
    exact ⟨by rw [hr.out]; rfl, hfin.out _ _⟩
 have kb1 : (k == 1) = false := by simpa using k1
 by_cases k23 : k = 2 ∨ k = 3
 ·have h : Hid (actC vars locks ⟨k, v, n⟩ = (btw v 0 (vars - 1) && btw n (-100) 100)) := by show _ = _; simp [actC, k1, k23]
  generalize actC vars locks ⟨k, v, n⟩ = r at h ⊢
  rcases k23 with rfl | rfl
  all_goals
   cases hb : btw v 0 (vars - 1)
   ·have hr : Hid (r = false) := by show _ = _; rw [h.out, hb]; rfl
    clear h
    go_enter Tryz.func68, Tryz.ntmps68
    go_wp2_with (go_at_call 47; refine (betweenI_calls _ _ _ _).mono ?_; rintro e w' ⟨rfl, rfl⟩)
    go_ret
    exact ⟨by rw [hr.out]; rfl, hfin.out _ _⟩
   ·cases hn : btw n (-100) 100
    ·have hr : Hid (r = false) := by show _ = _; rw [h.out, hb, hn]; rfl
     clear h
     go_enter Tryz.func68, Tryz.ntmps68
     go_wp2_with (go_at_call 47; refine (betweenI_calls _ _ _ _).mono ?_; rintro e w' ⟨rfl, rfl⟩)
     go_ret
     exact ⟨by rw [hr.out]; rfl, hfin.out _ _⟩
    ·have hr : Hid (r = true) := by show _ = _; rw [h.out, hb, hn]; rfl
     clear h
     go_enter Tryz.func68, Tryz.ntmps68
     go_wp2_with (go_at_call 47; refine (betweenI_calls _ _ _ _).mono ?_; rintro e w' ⟨rfl, rfl⟩)
     go_ret
     exact ⟨by rw [hr.out]; rfl, hfin.out _ _⟩
 have kb2 : (k == 2) = false := by simp; omega
 have kb3 : (k == 3) = false := by simp; omega
 by_cases k45 : k = 4 ∨ k = 5
 ·have h : Hid (actC vars locks ⟨k, v, n⟩ = (btw v 0 (locks - 1) && n == 0)) := by show _ = _; simp [actC, k1, k23, k45]
  generalize actC vars locks ⟨k, v, n⟩ = r at h ⊢
  rcases k45 with rfl | rfl
  all_goals
   cases hb : btw v 0 (locks - 1)
   ·have hr : Hid (r = false) := by show _ = _; rw [h.out, hb]; rfl
    clear h
    go_enter Tryz.func68, Tryz.ntmps68
    go_wp2_with (go_at_call 47; refine (betweenI_calls _ _ _ _).mono ?_; rintro e w' ⟨rfl, rfl⟩)
    go_ret
    exact ⟨by rw [hr.out]; rfl, hfin.out _ _⟩
   ·by_cases hn : n = 0
    ·subst hn
     have hr : Hid (r = true) := by show _ = _; rw [h.out, hb]; rfl
     clear h
     go_enter Tryz.func68, Tryz.ntmps68
     go_wp2_with (go_at_call 47; refine (betweenI_calls _ _ _ _).mono ?_; rintro e w' ⟨rfl, rfl⟩)
     go_ret
     exact ⟨by rw [hr.out]; rfl, hfin.out _ _⟩
    ·have hnb : (n == 0) = false := by simpa using hn
     have hr : Hid (r = false) := by show _ = _; rw [h.out, hb, hnb]; rfl
     clear h
     go_enter Tryz.func68, Tryz.ntmps68
     go_wp2_with (go_at_call 47; refine (betweenI_calls _ _ _ _).mono ?_; rintro e w' ⟨rfl, rfl⟩)
     go_ret
     exact ⟨by rw [hr.out]; rfl, hfin.out _ _⟩
 have kb4 : (k == 4) = false := by simp; omega
 have kb5 : (k == 5) = false := by simp; omega
 have hr : Hid (actC vars locks ⟨k, v, n⟩ = false) := by show _ = _; simp [actC, k1, k23, k45]
 generalize actC vars locks ⟨k, v, n⟩ = r at hr ⊢
 go_enter Tryz.func68, Tryz.ntmps68
 go_wp2_with (go_at_call 47; refine (betweenI_calls _ _ _ _).mono ?_; rintro e w' ⟨rfl, rfl⟩)
 go_ret
 exact ⟨by rw [hr.out]; rfl, hfin.out _ _⟩
end Go.Proofs.YtknbchheoloaoaaGreat

/- impl.hasLock, and all acts asked. -/
namespace Go.Proofs.YtknbchheoloaoaaGreat
set_option linter.unusedVariables false
open Go.ChangeShapes Go.WideShapes Go.ChangeAt Go.RowKit

set_option maxRecDepth 1000000 in
set_option maxHeartbeats 2000000 in
theorem hasL_calls (a : Option Addr) (c : Nat) (acts : List ActL) (lock : Int) (w : World) (lo hi : Nat) (hh : hi ≤ w.heap.size) (ht : ListAt ActR 3 true lo hi w (.slice a acts.length c) acts) (hn : acts.length ≤ 1048576) :
  Calls Tryz.prog 70 #[.slice a acts.length c, .int .i64 lock] w fun e w' => e = .returned (.bool (hasL acts lock)) ∧ Below w.heap.size w w' := by
 have htH : Hid (∀ W, Below w.heap.size w W → ListAt ActR 3 true lo hi W (.slice a acts.length c) acts) := fun W hW => ht.kept ActR.stable (Nat.le_refl _) (Nat.le_refl _) ((Same.below hW).mono (Nat.zero_le _) hh)
 have isz : Hid ((Tryz.prog.info? 60).map (·.size) = some 3) := by show _ = _; kernel_rfl
 have hfin : Hid (hasL (acts.take acts.length) lock = hasL acts lock) := by show _ = _; rw [List.take_length]
 have hst : Hid (∀ k (h : k < acts.length), hasL (acts.take (k + 1)) lock = lockStep lock (hasL (acts.take k) lock) acts[k]) := fun k h => foldl_take_step lock h
 have hz0 : Hid (false = hasL (acts.take 0) lock) := rfl
 generalize hasL acts lock = R at hfin ⊢
 clear ht hh
 go_enter Tryz.func70, Tryz.ntmps70
 go_wp2
 go_loopw [5, 10] (fun hv i wr => ∃ (m : Nat) (p : Bool), m ≤ acts.length ∧ hv = .bool p ∧ i = .int .i64 m ∧ Hid (p = hasL (acts.take m) lock) ∧ Hid (Below w.heap.size w wr)) (fun _ i _ => acts.length - (intOf i).toNat)
 case atStart => exact ⟨0, false, Nat.zero_le _, rfl, rfl, hz0, Below.refl _ _⟩
 case round =>
  obtain ⟨m, p, hm, rfl, rfl, hz, hB⟩ := hrel
  by_cases hlt : m < acts.length
  ·obtain ⟨b, off, row, rfl, hbb, hrl, hrr, hrx⟩ := (htH.out wr hB.out).at m hlt
   have hlt' : (m : Int) < (acts.length : Int) := by omega
   have hstep : Hid (hasL (acts.take (m + 1)) lock = lockStep lock p acts[m]) := by
    show _ = _
    rw [hst.out m hlt, ← hz.out]
   have hrx : row = [.int .i64 acts[m].kind, .int .i64 acts[m].var, .int .i64 acts[m].n] := hrx
   generalize acts[m] = x at hstep hrx
   subst hrx
   have hc : Hid (∀ W, Calls Tryz.prog 69 #[.agg #[.int .i64 x.kind, .int .i64 x.var, .int .i64 x.n]] W fun e w' => e = .returned (.bool (isL x)) ∧ Below W.heap.size W w') := fun W => isL_calls x W
   have hrrH : Hid (wr.rangeAt b (off + m * 3) [.int .i64 x.kind, .int .i64 x.var, .int .i64 x.n]) := hrr
   obtain ⟨W1, hW1⟩ : ∃ W1 : World, W1 = wr.alloc (.cells #[.int .i64 x.kind, .int .i64 x.var, .int .i64 x.n] 60) := ⟨_, rfl⟩
   have hcs : Hid (∀ W2, Below W1.heap.size W1 W2 → Below w.heap.size w W2 ∧ W2.cell? ⟨wr.heap.size, 0, none⟩ = some (.int .i64 x.kind) ∧ W2.cell? ⟨wr.heap.size, 1, none⟩ = some (.int .i64 x.var)) := fun W2 hb2 => by
    have h := rangeAt_heap (heap_alloc_new wr (.cells #[.int .i64 x.kind, .int .i64 x.var, .int .i64 x.n] 60))
    have hsz : W1.heap.size = wr.heap.size + 1 := by rw [hW1]; simp
    refine ⟨below_on hB.out (below_on (by rw [hW1]; exact below_1 _ _) (hb2)), ?_, ?_⟩
    ·rw [hb2.cell (p := ⟨wr.heap.size, 0, none⟩) (by show wr.heap.size < _; omega), hW1]; exact h 0 _ rfl
    ·rw [hb2.cell (p := ⟨wr.heap.size, 1, none⟩) (by show wr.heap.size < _; omega), hW1]; exact h 1 _ rfl
   have hls : Hid (lockStep lock p x = if (isL x && x.var == lock) = true then x.kind == 4 else p) := rfl
   clear hrr hrl
   cases hi' : isL x with
   | false =>
    have hr : Hid (hasL (acts.take (m + 1)) lock = p) := by show _ = _; rw [hstep.out, hls.out, hi']; rfl
    rw [hi'] at hc
    clear hi' hls hstep
    go_wp2_with (first | (refine wpList_load_mid rfl 60 _ rfl b (off + m * 3) (by first | rfl | (simp; done)) _ _ hrrH.out Tryz.underlying60 rfl isz.out ?_) | (go_at_call 69; rw [← hW1]; refine (hc.out _).mono ?_; rintro e w2 ⟨rfl, hb2⟩; obtain ⟨hB2, c0, c1⟩ := hcs.out _ hb2))
    go_roundw
    case rel => exact ⟨m + 1, p, by omega, rfl, by go_num, hr.out.symm, hB2⟩
    case measure => simp [intOf]; omega
   | true =>
    rw [hi'] at hc
    by_cases hvl : x.var = lock
    ·have hr : Hid (hasL (acts.take (m + 1)) lock = (x.kind == 4)) := by show _ = _; rw [hstep.out, hls.out, hi']; simp [hvl]
     clear hi' hls hstep
     subst hvl
     go_wp2_with (first | (refine wpList_load_mid rfl 60 _ rfl b (off + m * 3) (by first | rfl | (simp; done)) _ _ hrrH.out Tryz.underlying60 rfl isz.out ?_) | (go_at_call 69; rw [← hW1]; refine (hc.out _).mono ?_; rintro e w2 ⟨rfl, hb2⟩; obtain ⟨hB2, c0, c1⟩ := hcs.out _ hb2))
     go_roundw
     case rel => exact ⟨m + 1, _, by omega, rfl, by go_num, hr.out.symm, hB2⟩
     case measure => simp [intOf]; omega
    ·have hr : Hid (hasL (acts.take (m + 1)) lock = p) := by show _ = _; rw [hstep.out, hls.out, hi']; simp [hvl]
     have hvb : (x.var == lock) = false := by simpa using hvl
     clear hi' hls hstep hvl
     go_wp2_with (first | (refine wpList_load_mid rfl 60 _ rfl b (off + m * 3) (by first | rfl | (simp; done)) _ _ hrrH.out Tryz.underlying60 rfl isz.out ?_) | (go_at_call 69; rw [← hW1]; refine (hc.out _).mono ?_; rintro e w2 ⟨rfl, hb2⟩; obtain ⟨hB2, c0, c1⟩ := hcs.out _ hb2))
     go_roundw
     case rel => exact ⟨m + 1, p, by omega, rfl, by go_num, hr.out.symm, hB2⟩
     case measure => simp [intOf]; omega
  ·have hme : m = acts.length := by omega
   have hend : Hid (R = p) := by show _ = _; rw [hz.out, hme, hfin.out]
   go_wp2
   go_ret
   exact ⟨by rw [hend.out]; rfl, hB.out⟩

set_option maxRecDepth 1000000 in
set_option maxHeartbeats 2000000 in
theorem allAct_calls (p : ActL → Bool) (lit : Array Value) (v : Value) (xs : List ActL) (w : World) (lo hi : Nat) (hh : hi ≤ w.heap.size) (ht : ListAt ActR 3 true lo hi w v xs) (hn : xs.length ≤ 1048576)
  (hG : ∀ x ∈ xs, ∀ (W : World), Calls Tryz.prog 68 #[.agg lit, .agg #[.int .i64 x.kind, .int .i64 x.var, .int .i64 x.n]] W fun e w' => e = .returned (.bool (p x)) ∧ Below W.heap.size W w') :
  Calls Tryz.prog 67 #[v, .func (.func 68) #[.agg lit] #[]] w fun e w' => e = .returned (.bool (xs.all p)) ∧ Below w.heap.size w w' := by
 obtain ⟨a, c, rfl⟩ := ht.form
 have htH : Hid (∀ W, Below w.heap.size w W → ListAt ActR 3 true lo hi W (.slice a xs.length c) xs) := fun W hW => ht.kept ActR.stable (Nat.le_refl _) (Nat.le_refl _) ((Same.below hW).mono (Nat.zero_le _) hh)
 have gH : Hid (∀ x ∈ xs, ∀ (W : World), Calls Tryz.prog 68 #[.agg lit, .agg #[.int .i64 x.kind, .int .i64 x.var, .int .i64 x.n]] W fun e w' => e = .returned (.bool (p x)) ∧ Below W.heap.size W w') := hG
 have isz : Hid ((Tryz.prog.info? 60).map (·.size) = some 3) := by show _ = _; kernel_rfl
 obtain ⟨R, hR⟩ : ∃ R, xs.all p = R := ⟨_, rfl⟩
 rw [hR]
 have hRH : Hid (xs.all p = R) := hR
 clear hR ht hh hG
 go_enter Tryz.func67, Tryz.ntmps67
 go_wp2
 go_loopw [9] (fun i wr => ∃ m : Nat, m ≤ xs.length ∧ i = .int .i64 m ∧ Hid ((xs.drop m).all p = R) ∧ Hid (Below w.heap.size w wr)) (fun i _ => xs.length - (intOf i).toNat)
 case atStart => exact ⟨0, Nat.zero_le _, rfl, hRH.out, Below.refl _ _⟩
 case round =>
  obtain ⟨m, hm, rfl, hz, hB⟩ := hrel
  by_cases hlt : m < xs.length
  ·obtain ⟨b, off, row, rfl, hbb, hrl, hrr, hrx⟩ := (htH.out wr hB.out).at m hlt
   have hlt' : (m : Int) < (xs.length : Int) := by omega
   have hmem := List.getElem_mem hlt
   have hdr := List.drop_eq_getElem_cons hlt
   obtain ⟨x, hxm⟩ : ∃ x, x = xs[m] := ⟨_, rfl⟩
   rw [← hxm] at hrx hdr hmem
   have hc : Hid (∀ W, Calls Tryz.prog 68 #[.agg lit, .agg #[.int .i64 x.kind, .int .i64 x.var, .int .i64 x.n]] W fun e w' => e = .returned (.bool (p x)) ∧ Below W.heap.size W w') := fun W => gH.out x hmem W
   obtain rfl : row = [.int .i64 x.kind, .int .i64 x.var, .int .i64 x.n] := hrx
   have hstep : Hid (R = (p x && (xs.drop (m + 1)).all p)) := by
    have := hz.out
    rw [hdr] at this
    exact this.symm
   obtain ⟨ib, hib⟩ : ∃ ib, p x = ib := ⟨_, rfl⟩
   rw [hib] at hstep hc
   have hrrH : Hid (wr.rangeAt b (off + m * 3) [.int .i64 x.kind, .int .i64 x.var, .int .i64 x.n]) := hrr
   have hBn : Hid (Below w.heap.size w (wr.alloc (.cells #[.int .i64 x.kind, .int .i64 x.var, .int .i64 x.n] 60))) := below_on hB.out (below_1 _ _)
   clear hrr hrl hxm hdr hmem hib
   cases ib with
   | false =>
    go_wp2_with (first | (refine wpList_load_mid rfl 60 _ rfl b (off + m * 3) (by first | rfl | (simp; done)) _ _ hrrH.out Tryz.underlying60 rfl isz.out ?_) | (go_at_call 68; refine (hc.out _).mono ?_; rintro e w2 ⟨rfl, hb2⟩))
    go_ret
    exact ⟨by rw [hstep.out]; rfl, below_on hBn.out hb2⟩
   | true =>
    go_wp2_with (first | (refine wpList_load_mid rfl 60 _ rfl b (off + m * 3) (by first | rfl | (simp; done)) _ _ hrrH.out Tryz.underlying60 rfl isz.out ?_) | (go_at_call 68; refine (hc.out _).mono ?_; rintro e w2 ⟨rfl, hb2⟩))
    go_roundw
    case rel => exact ⟨m + 1, by omega, by go_num, (show _ = R by rw [hstep.out]; rfl), below_on hBn.out hb2⟩
    case measure => simp [intOf]; omega
  ·have hend := hz.out
   rw [List.drop_eq_nil_of_le (by omega)] at hend
   have hR : R = true := hend.symm
   subst hR
   clear hend
   go_wp2
   go_ret
   exact ⟨rfl, hB.out⟩
end Go.Proofs.YtknbchheoloaoaaGreat
