/- impl.hasLock, and all acts asked. -/
import Derived.Test.YtohlkiadofmfpaaLtG
namespace Go.Proofs.Ytohlkiadofmfpaa
set_option linter.unusedVariables false
open Go.ChangeShapes Go.WideShapes Go.ChangeAt Go.RowKit

set_option maxRecDepth 1000000 in
set_option maxHeartbeats 2000000 in
theorem hasL_calls (a : Option Addr) (c : Nat) (acts : List ActL) (lock : Int) (w : World) (lo hi : Nat) (hh : hi ≤ w.heap.size) (ht : ListAt ActR 3 true lo hi w (.slice a acts.length c) acts) (hn : acts.length ≤ 1048576) :
    Calls Try.prog 22 #[.slice a acts.length c, .int .i64 lock] w fun e w' => e = .returned (.bool (hasL acts lock)) ∧ Below w.heap.size w w' := by
  have htH : Hid (∀ W, Below w.heap.size w W → ListAt ActR 3 true lo hi W (.slice a acts.length c) acts) := fun W hW => ht.kept ActR.stable (Nat.le_refl _) (Nat.le_refl _) ((Same.below hW).mono (Nat.zero_le _) hh)
  have isz : Hid ((Try.prog.info? 45).map (·.size) = some 3) := by show _ = _; kernel_rfl
  have hfin : Hid (hasL (acts.take acts.length) lock = hasL acts lock) := by show _ = _; rw [List.take_length]
  have hst : Hid (∀ k (h : k < acts.length), hasL (acts.take (k + 1)) lock = lockStep lock (hasL (acts.take k) lock) acts[k]) := fun k h => foldl_take_step lock h
  have hz0 : Hid (false = hasL (acts.take 0) lock) := rfl
  generalize hasL acts lock = R at hfin ⊢
  clear ht hh
  go_enter Try.func22, Try.ntmps22
  go_wp2
  go_loopw [5, 10] (fun hv i wr => ∃ (m : Nat) (p : Bool), m ≤ acts.length ∧ hv = .bool p ∧ i = .int .i64 m ∧ Hid (p = hasL (acts.take m) lock) ∧ Hid (Below w.heap.size w wr)) (fun _ i _ => acts.length - (intOf i).toNat)
  case atStart => exact ⟨0, false, Nat.zero_le _, rfl, rfl, hz0, Below.refl _ _⟩
  case round =>
    obtain ⟨m, p, hm, rfl, rfl, hz, hB⟩ := hrel
    by_cases hlt : m < acts.length
    · obtain ⟨b, off, row, rfl, hbb, hrl, hrr, hrx⟩ := (htH.out wr hB.out).at m hlt
      have hlt' : (m : Int) < (acts.length : Int) := by omega
      have hstep : Hid (hasL (acts.take (m + 1)) lock = lockStep lock p acts[m]) := by
        show _ = _
        rw [hst.out m hlt, ← hz.out]
      have hrx : row = [.int .i64 acts[m].kind, .int .i64 acts[m].var, .int .i64 acts[m].n] := hrx
      generalize acts[m] = x at hstep hrx
      subst hrx
      have hc : Hid (∀ W, Calls Try.prog 21 #[.agg #[.int .i64 x.kind, .int .i64 x.var, .int .i64 x.n]] W fun e w' => e = .returned (.bool (isL x)) ∧ Below W.heap.size W w') := fun W => isL_calls x W
      have hrrH : Hid (wr.rangeAt b (off + m * 3) [.int .i64 x.kind, .int .i64 x.var, .int .i64 x.n]) := hrr
      obtain ⟨W1, hW1⟩ : ∃ W1 : World, W1 = wr.alloc (.cells #[.int .i64 x.kind, .int .i64 x.var, .int .i64 x.n] 45) := ⟨_, rfl⟩
      have hcs : Hid (∀ W2, Below W1.heap.size W1 W2 → Below w.heap.size w W2 ∧ W2.cell? ⟨wr.heap.size, 0, none⟩ = some (.int .i64 x.kind) ∧ W2.cell? ⟨wr.heap.size, 1, none⟩ = some (.int .i64 x.var)) := fun W2 hb2 => by
        have h := rangeAt_heap (heap_alloc_new wr (.cells #[.int .i64 x.kind, .int .i64 x.var, .int .i64 x.n] 45))
        have hsz : W1.heap.size = wr.heap.size + 1 := by rw [hW1]; simp
        refine ⟨below_on hB.out (below_on (by rw [hW1]; exact below_1 _ _) (hb2)), ?_, ?_⟩
        · rw [hb2.cell (p := ⟨wr.heap.size, 0, none⟩) (by show wr.heap.size < _; omega), hW1]; exact h 0 _ rfl
        · rw [hb2.cell (p := ⟨wr.heap.size, 1, none⟩) (by show wr.heap.size < _; omega), hW1]; exact h 1 _ rfl
      have hls : Hid (lockStep lock p x = if (isL x && x.var == lock) = true then x.kind == 4 else p) := rfl
      clear hrr hrl
      cases hi' : isL x with
      | false =>
        have hr : Hid (hasL (acts.take (m + 1)) lock = p) := by show _ = _; rw [hstep.out, hls.out, hi']; rfl
        rw [hi'] at hc
        clear hi' hls hstep
        go_wp2_with (first | (refine wpList_load_mid rfl 45 _ rfl b (off + m * 3) (by first | rfl | (simp; done)) _ _ hrrH.out Try.underlying45 rfl isz.out ?_) | (go_at_call 21; rw [← hW1]; refine (hc.out _).mono ?_; rintro e w2 ⟨rfl, hb2⟩; obtain ⟨hB2, c0, c1⟩ := hcs.out _ hb2))
        go_roundw
        case rel => exact ⟨m + 1, p, by omega, rfl, by go_num, hr.out.symm, hB2⟩
        case measure => simp [intOf]; omega
      | true =>
        rw [hi'] at hc
        by_cases hvl : x.var = lock
        · have hr : Hid (hasL (acts.take (m + 1)) lock = (x.kind == 4)) := by show _ = _; rw [hstep.out, hls.out, hi']; simp [hvl]
          clear hi' hls hstep
          subst hvl
          go_wp2_with (first | (refine wpList_load_mid rfl 45 _ rfl b (off + m * 3) (by first | rfl | (simp; done)) _ _ hrrH.out Try.underlying45 rfl isz.out ?_) | (go_at_call 21; rw [← hW1]; refine (hc.out _).mono ?_; rintro e w2 ⟨rfl, hb2⟩; obtain ⟨hB2, c0, c1⟩ := hcs.out _ hb2))
          go_roundw
          case rel => exact ⟨m + 1, _, by omega, rfl, by go_num, hr.out.symm, hB2⟩
          case measure => simp [intOf]; omega
        · have hr : Hid (hasL (acts.take (m + 1)) lock = p) := by show _ = _; rw [hstep.out, hls.out, hi']; simp [hvl]
          have hvb : (x.var == lock) = false := by simpa using hvl
          clear hi' hls hstep hvl
          go_wp2_with (first | (refine wpList_load_mid rfl 45 _ rfl b (off + m * 3) (by first | rfl | (simp; done)) _ _ hrrH.out Try.underlying45 rfl isz.out ?_) | (go_at_call 21; rw [← hW1]; refine (hc.out _).mono ?_; rintro e w2 ⟨rfl, hb2⟩; obtain ⟨hB2, c0, c1⟩ := hcs.out _ hb2))
          go_roundw
          case rel => exact ⟨m + 1, p, by omega, rfl, by go_num, hr.out.symm, hB2⟩
          case measure => simp [intOf]; omega
    · have hme : m = acts.length := by omega
      have hend : Hid (R = p) := by show _ = _; rw [hz.out, hme, hfin.out]
      go_wp2
      go_ret
      exact ⟨by rw [hend.out]; rfl, hB.out⟩

set_option maxRecDepth 1000000 in
set_option maxHeartbeats 2000000 in
theorem allAct_calls (p : ActL → Bool) (lit : Array Value) (v : Value) (xs : List ActL) (w : World) (lo hi : Nat) (hh : hi ≤ w.heap.size) (ht : ListAt ActR 3 true lo hi w v xs) (hn : xs.length ≤ 1048576)
    (hG : ∀ x ∈ xs, ∀ (W : World), Calls Try.prog 20 #[.agg lit, .agg #[.int .i64 x.kind, .int .i64 x.var, .int .i64 x.n]] W fun e w' => e = .returned (.bool (p x)) ∧ Below W.heap.size W w') :
    Calls Try.prog 19 #[v, .func (.func 20) #[.agg lit] #[]] w fun e w' => e = .returned (.bool (xs.all p)) ∧ Below w.heap.size w w' := by
  obtain ⟨a, c, rfl⟩ := ht.form
  have htH : Hid (∀ W, Below w.heap.size w W → ListAt ActR 3 true lo hi W (.slice a xs.length c) xs) := fun W hW => ht.kept ActR.stable (Nat.le_refl _) (Nat.le_refl _) ((Same.below hW).mono (Nat.zero_le _) hh)
  have gH : Hid (∀ x ∈ xs, ∀ (W : World), Calls Try.prog 20 #[.agg lit, .agg #[.int .i64 x.kind, .int .i64 x.var, .int .i64 x.n]] W fun e w' => e = .returned (.bool (p x)) ∧ Below W.heap.size W w') := hG
  have isz : Hid ((Try.prog.info? 45).map (·.size) = some 3) := by show _ = _; kernel_rfl
  obtain ⟨R, hR⟩ : ∃ R, xs.all p = R := ⟨_, rfl⟩
  rw [hR]
  have hRH : Hid (xs.all p = R) := hR
  clear hR ht hh hG
  go_enter Try.func19, Try.ntmps19
  go_wp2
  go_loopw [9] (fun i wr => ∃ m : Nat, m ≤ xs.length ∧ i = .int .i64 m ∧ Hid ((xs.drop m).all p = R) ∧ Hid (Below w.heap.size w wr)) (fun i _ => xs.length - (intOf i).toNat)
  case atStart => exact ⟨0, Nat.zero_le _, rfl, hRH.out, Below.refl _ _⟩
  case round =>
    obtain ⟨m, hm, rfl, hz, hB⟩ := hrel
    by_cases hlt : m < xs.length
    · obtain ⟨b, off, row, rfl, hbb, hrl, hrr, hrx⟩ := (htH.out wr hB.out).at m hlt
      have hlt' : (m : Int) < (xs.length : Int) := by omega
      have hmem := List.getElem_mem hlt
      have hdr := List.drop_eq_getElem_cons hlt
      obtain ⟨x, hxm⟩ : ∃ x, x = xs[m] := ⟨_, rfl⟩
      rw [← hxm] at hrx hdr hmem
      have hc : Hid (∀ W, Calls Try.prog 20 #[.agg lit, .agg #[.int .i64 x.kind, .int .i64 x.var, .int .i64 x.n]] W fun e w' => e = .returned (.bool (p x)) ∧ Below W.heap.size W w') := fun W => gH.out x hmem W
      obtain rfl : row = [.int .i64 x.kind, .int .i64 x.var, .int .i64 x.n] := hrx
      have hstep : Hid (R = (p x && (xs.drop (m + 1)).all p)) := by
        have := hz.out
        rw [hdr] at this
        exact this.symm
      obtain ⟨ib, hib⟩ : ∃ ib, p x = ib := ⟨_, rfl⟩
      rw [hib] at hstep hc
      have hrrH : Hid (wr.rangeAt b (off + m * 3) [.int .i64 x.kind, .int .i64 x.var, .int .i64 x.n]) := hrr
      have hBn : Hid (Below w.heap.size w (wr.alloc (.cells #[.int .i64 x.kind, .int .i64 x.var, .int .i64 x.n] 45))) := below_on hB.out (below_1 _ _)
      clear hrr hrl hxm hdr hmem hib
      cases ib with
      | false =>
        go_wp2_with (first | (refine wpList_load_mid rfl 45 _ rfl b (off + m * 3) (by first | rfl | (simp; done)) _ _ hrrH.out Try.underlying45 rfl isz.out ?_) | (go_at_call 20; refine (hc.out _).mono ?_; rintro e w2 ⟨rfl, hb2⟩))
        go_ret
        exact ⟨by rw [hstep.out]; rfl, below_on hBn.out hb2⟩
      | true =>
        go_wp2_with (first | (refine wpList_load_mid rfl 45 _ rfl b (off + m * 3) (by first | rfl | (simp; done)) _ _ hrrH.out Try.underlying45 rfl isz.out ?_) | (go_at_call 20; refine (hc.out _).mono ?_; rintro e w2 ⟨rfl, hb2⟩))
        go_roundw
        case rel => exact ⟨m + 1, by omega, by go_num, (show _ = R by rw [hstep.out]; rfl), below_on hBn.out hb2⟩
        case measure => simp [intOf]; omega
    · have hend := hz.out
      rw [List.drop_eq_nil_of_le (by omega)] at hend
      have hR : R = true := hend.symm
      subst hR
      clear hend
      go_wp2
      go_ret
      exact ⟨rfl, hB.out⟩
end Go.Proofs.Ytohlkiadofmfpaa
