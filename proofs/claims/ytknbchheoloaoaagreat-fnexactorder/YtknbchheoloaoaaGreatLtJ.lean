/- impl's answer on one thread. -/
import Derived.Test.YtknbchheoloaoaaGreatLtG
namespace Go.Proofs.YtknbchheoloaoaaGreat
set_option linter.unusedVariables false
open Go.ChangeShapes Go.WideShapes Go.ChangeAt Go.RowKit

set_option maxRecDepth 1000000 in
set_option maxHeartbeats 4000000 in
theorem player_calls (vars vol locks : Int) (ta : Option Addr) (tn tc : Nat) (a : Option Addr) (c : Nat) (acts : List ActL) (w : World) (lo hi : Nat) (hh : hi ≤ w.heap.size) (hv0 : 0 ≤ vars) (hv1 : vars ≤ 4) (hl0 : 0 ≤ locks) (hl1 : locks ≤ 2) (ht : ListAt ActR 3 true lo hi w (.slice a acts.length c) acts) (hn : acts.length ≤ 1048576) (hcap : acts.length ≤ c) :
  Calls Tryz.prog 49 #[.agg #[.int .i64 vars, .int .i64 vol, .int .i64 locks, .slice ta tn tc], .slice a acts.length c] w fun e w' => e = .returned (.bool (threadB vars locks acts)) ∧ Below w.heap.size w w' := by
 have hmf : ∀ (fn : Fn) (first cap : Array Value) (w : World), (Instr.makeFunc fn first cap).run Tryz.prog w = .ok (.func fn first cap) w := fun _ _ _ _ => rfl
 have htH : Hid (∀ W, Below w.heap.size w W → ListAt ActR 3 true lo hi W (.slice a acts.length c) acts) := fun W hW => ht.kept ActR.stable (Nat.le_refl _) (Nat.le_refl _) ((Same.below hW).mono (Nat.zero_le _) hh)
 have hhH : Hid (∀ W, Below w.heap.size w W → hi ≤ W.heap.size) := fun W hW => by have := hW.size; omega
 have isz : Hid ((Tryz.prog.info? 60).map (·.size) = some 3) := by show _ = _; kernel_rfl
 have hAll : Hid (∀ W, Below w.heap.size w W → Calls Tryz.prog 67 #[.slice a acts.length c, .func (.func 68) #[.agg #[.int .i64 vars, .int .i64 vol, .int .i64 locks, .slice ta tn tc]] #[]] W fun e w' => e = .returned (.bool (acts.all (actC vars locks))) ∧ Below W.heap.size W w') := fun W hW =>
  allAct_calls _ _ _ _ W lo hi (hhH.out W hW) (htH.out W hW) hn fun x _ W2 => actC_calls vars vol locks ta tn tc x W2 hv0 hv1 hl0 hl1
 have hHas : Hid (∀ W, Below w.heap.size w W → ∀ (m : Nat), m ≤ acts.length → ∀ l : Int, Calls Tryz.prog 70 #[.slice a m c, .int .i64 l] W fun e w' => e = .returned (.bool (hasL (acts.take m) l)) ∧ Below W.heap.size W w') := fun W hW m hm l => by
  have hlen : (acts.take m).length = m := by simp [hm]
  have h := hasL_calls a c (acts.take m) l W lo hi (hhH.out W hW) (by rw [hlen]; exact (htH.out W hW).take hm) (by omega)
  rw [hlen] at h; exact h
 have hEq : Hid (threadB vars locks acts = (decide (acts.length ≤ 4) && (acts.all (actC vars locks) && (okFrom [] acts && (!hasL acts 0 && !hasL acts 1))))) := thread_eq hl1 acts
 have hL1 : Hid (locks ≤ 2) := hl1
 generalize threadB vars locks acts = R at hEq ⊢
 have hLW : Hid (LitW w (w.alloc (.cells #[.int .i64 vars, .int .i64 vol, .int .i64 locks, .slice ta tn tc] 34)) vars vol locks (.slice ta tn tc)) := LitW.start _ _ _ _ _ _
 have hBW : Hid (Below w.heap.size w (w.alloc (.cells #[.int .i64 vars, .int .i64 vol, .int .i64 locks, .slice ta tn tc] 34))) := below_1 _ _
 clear ht hh hv0 hv1 hl1
 by_cases h4 : acts.length ≤ 4
 ·have h4' : (acts.length : Int) ≤ 4 := by omega
  cases hall : acts.all (actC vars locks) with
  | false =>
   have hr : Hid (R = false) := by show _ = _; rw [hEq.out, hall]; simp
   rw [hall] at hAll
   clear hall hEq
   go_enter Tryz.func49, Tryz.ntmps49
   go_wp2_with (go_at_call 67; refine (hAll.out _ hBW.out).mono ?_; rintro e w2 ⟨rfl, hb2⟩)
   go_ret
   exact ⟨by rw [hr.out]; rfl, below_on hBW.out hb2⟩
  | true =>
   have hT : Hid (R = (okFrom (acts.take 0) (acts.drop 0) && endB acts 0)) := by
    show _ = _
    rw [hEq.out, hall, endB_zero]; simp [h4]
   have hEnd : Hid (∀ j : Nat, locks ≤ j → endB acts j = true) := fun j hj => endB_end hall hj
   rw [hall] at hAll
   clear hall hEq
   go_enter Tryz.func49, Tryz.ntmps49
   go_wp2_with (go_at_call 67; refine (hAll.out _ hBW.out).mono ?_; rintro e w2 ⟨rfl, hb2⟩)
   have hL2 : Hid (LitW w w2 vars vol locks (.slice ta tn tc)) := hLW.out.on hb2
   clear hb2 hLW hBW hAll
   go_loopw [20] (fun i wr => ∃ m : Nat, m ≤ acts.length ∧ i = .int .i64 m ∧ Hid (R = (okFrom (acts.take m) (acts.drop m) && endB acts 0)) ∧ Hid (LitW w wr vars vol locks (.slice ta tn tc))) (fun i _ => acts.length - (intOf i).toNat)
   case atStart => exact ⟨0, Nat.zero_le _, rfl, hT, hL2⟩
   case round =>
    obtain ⟨m, hm, rfl, hz, hL⟩ := hrel
    clear hT hL2
    by_cases hlt : m < acts.length
    ·obtain ⟨b, off, row, rfl, hbb, hrl, hrr, hrx⟩ := (htH.out wr hL.out.hb).at m hlt
     have hlt' : (m : Int) < (acts.length : Int) := by omega
     have hm0 : (0 : Int) ≤ m := by omega
     have hmc : m ≤ c := by omega
     have hmc' : (m : Int) ≤ c := by omega
     have hx0 : Hid (badA (acts.take m) acts[m] = true → R = false) := fun h => by rw [hz.out, okFrom_bad hlt h]; rfl
     have hx1 : Hid (badA (acts.take m) acts[m] = false → R = (okFrom (acts.take (m + 1)) (acts.drop (m + 1)) && endB acts 0)) := fun h => by rw [hz.out, okFrom_good hlt h]
     have hrx : row = [.int .i64 acts[m].kind, .int .i64 acts[m].var, .int .i64 acts[m].n] := hrx
     generalize acts[m] = x at hrx hx0 hx1
     subst hrx
     have hrrH : Hid (wr.rangeAt b (off + m * 3) [.int .i64 x.kind, .int .i64 x.var, .int .i64 x.n]) := hrr
     obtain ⟨W1, hW1⟩ : ∃ W1 : World, W1 = wr.alloc (.cells #[.int .i64 x.kind, .int .i64 x.var, .int .i64 x.n] 60) := ⟨_, rfl⟩
     have hrng := rangeAt_heap (heap_alloc_new wr (.cells #[.int .i64 x.kind, .int .i64 x.var, .int .i64 x.n] 60))
     rw [← hW1] at hrng
     have s0 : W1.cell? ⟨wr.heap.size, 0, none⟩ = some (.int .i64 x.kind) := hrng 0 _ rfl
     have s1 : W1.cell? ⟨wr.heap.size, 1, none⟩ = some (.int .i64 x.var) := hrng 1 _ rfl
     have s2 : W1.cell? ⟨wr.heap.size, 2, none⟩ = some (.int .i64 x.n) := hrng 2 _ rfl
     have hLW1 : Hid (LitW w W1 vars vol locks (.slice ta tn tc)) := hL.out.on (by rw [hW1]; exact below_1 _ _)
     have hbad : Hid (badA (acts.take m) x = (isL x && (hasL (acts.take m) x.var == (x.kind == 4)))) := rfl
     have k0 := cell_regrown s0
     have k1 := cell_regrown s1
     have k2 := cell_regrown s2
     have cI : ∀ d os, Calls Tryz.prog 69 #[.agg #[.int .i64 x.kind, .int .i64 x.var, .int .i64 x.n]] (Sort.grow (redrawn W1 d) os) fun e w'' => e = .returned (.bool (isL x)) ∧ ∃ p : Regrown, w'' = Sort.grow (redrawn W1 p.d) p.os := fun d os => Calls.regrown_of (isL_calls x _)
     have cH : ∀ d os, Calls Tryz.prog 70 #[.slice (some ⟨b, off, none⟩) m c, .int .i64 x.var] (Sort.grow (redrawn W1 d) os) fun e w'' => e = .returned (.bool (hasL (acts.take m) x.var)) ∧ ∃ p : Regrown, w'' = Sort.grow (redrawn W1 p.d) p.os := fun d os => Calls.regrown_of (hHas.out _ (below_on hLW1.out.hb (below_regrown W1 d os)) m hm x.var)
     generalize hasL (acts.take m) x.var = hv at cH hbad
     generalize badA (acts.take m) x = bd at hx0 hx1 hbad
     generalize isL x = il at cI hbad
     clear hrng hrr hrl s0 s1 s2
     cases il with
     | false =>
      have hb0 : Hid (bd = false) := by show _ = _; rw [hbad.out]; rfl
      clear hbad
      go_wp2_with (first | (refine wpList_load_mid rfl 60 _ rfl b (off + m * 3) (by first | rfl | (simp; done)) _ _ hrrH.out Tryz.underlying60 rfl isz.out ?_))
      rw [← hW1]
      clear hW1
      refine wp_region_quiet_below (by kernel_rfl) (by kernel_rfl) ?_
      repeat (first | go_big_quiet_step (exact cI _ _) | quiet_step (exact cI _ _))
      refine wpQuiet_nil ?_
      intro _ hw'
      obtain ⟨⟨dq, osq⟩, hw''⟩ := hw'
      subst hw''
      have hLV : Hid (LitW w (Sort.grow (redrawn W1 dq) osq) vars vol locks (.slice ta tn tc)) := hLW1.out.on (below_regrown W1 dq osq)
      clear k0 k1 k2 cI cH hLW1
      generalize Sort.grow (redrawn W1 dq) osq = V at *
      go_wp2
      go_roundw
      case rel => exact ⟨m + 1, by omega, by go_num, hx1.out hb0.out, hLV⟩
      case measure => simp [intOf]; omega
     | true =>
      generalize hx4 : (x.kind == 4) = k4 at hbad
      by_cases hv4 : hv = k4
      ·have hb0 : Hid (bd = true) := by show _ = _; rw [hbad.out, hv4]; simp
       subst hv4
       clear hbad
       go_wp2_with (first | (refine wpList_load_mid rfl 60 _ rfl b (off + m * 3) (by first | rfl | (simp; done)) _ _ hrrH.out Tryz.underlying60 rfl isz.out ?_))
       rw [← hW1]
       clear hW1
       refine wp_region_quiet_below (by kernel_rfl) (by kernel_rfl) ?_
       go_big_quiet_step (exact cI _ _)
       go_big_quiet_step (exact cI _ _)
       repeat (first | go_big_quiet_step (exact cH _ _) | quiet_step (exact cH _ _))
       refine wpQuiet_nil ?_
       intro _ hw'
       obtain ⟨⟨dq, osq⟩, hw''⟩ := hw'
       subst hw''
       have hLV : Hid (LitW w (Sort.grow (redrawn W1 dq) osq) vars vol locks (.slice ta tn tc)) := hLW1.out.on (below_regrown W1 dq osq)
       clear k0 k1 k2 cI cH hLW1
       generalize Sort.grow (redrawn W1 dq) osq = V at *
       go_wp2
       go_ret
       exact ⟨by rw [hx0.out hb0.out]; rfl, hLV.out.hb⟩
      ·have hb0 : Hid (bd = false) := by show _ = _; rw [hbad.out]; cases hv <;> cases k4 <;> simp_all
       have hv4b : (hv == k4) = false := by simpa using hv4
       clear hbad hv4
       go_wp2_with (first | (refine wpList_load_mid rfl 60 _ rfl b (off + m * 3) (by first | rfl | (simp; done)) _ _ hrrH.out Tryz.underlying60 rfl isz.out ?_))
       rw [← hW1]
       clear hW1
       refine wp_region_quiet_below (by kernel_rfl) (by kernel_rfl) ?_
       go_big_quiet_step (exact cI _ _)
       go_big_quiet_step (exact cI _ _)
       repeat (first | go_big_quiet_step (exact cH _ _) | quiet_step (exact cH _ _))
       refine wpQuiet_nil ?_
       intro _ hw'
       obtain ⟨⟨dq, osq⟩, hw''⟩ := hw'
       subst hw''
       have hLV : Hid (LitW w (Sort.grow (redrawn W1 dq) osq) vars vol locks (.slice ta tn tc)) := hLW1.out.on (below_regrown W1 dq osq)
       clear k0 k1 k2 cI cH hLW1
       generalize Sort.grow (redrawn W1 dq) osq = V at *
       go_wp2
       go_roundw
       case rel => exact ⟨m + 1, by omega, by go_num, hx1.out hb0.out, hLV⟩
       case measure => simp [intOf]; omega
    ·have hme : m = acts.length := by omega
     obtain ⟨hbL, hszL, c0, c1, c2, c3⟩ := hL.out
     have hT2 : Hid (R = endB acts 0) := by show _ = _; rw [hz.out, hme, List.drop_length]; rfl
     have hE0 : Hid (∀ j : Nat, j < 2 → hasL acts j = true → endB acts j = false) := fun j => endB_has
     have hE1 : Hid (∀ j : Nat, j < 2 → hasL acts j = false → endB acts j = endB acts (j + 1)) := fun j => endB_next
     have hHas2 : Hid (∀ W, Below w.heap.size w W → ∀ l : Int, Calls Tryz.prog 70 #[.slice a acts.length c, .int .i64 l] W fun e w' => e = .returned (.bool (hasL acts l)) ∧ Below W.heap.size W w') := fun W hW l => by
      have h := hHas.out W hW acts.length (Nat.le_refl _) l
      rw [List.take_length] at h; exact h
     have hbLH : Hid (Below w.heap.size w wr) := hbL
     clear hz hHas hbL c0 c1 c3 hme
     obtain ⟨L, hL'⟩ : ∃ L : Nat, locks = L := ⟨locks.toNat, by omega⟩
     subst hL'
     go_wp2
     rename World => wo
     go_loopw [42] (fun i wr2 => ∃ j : Nat, j ≤ L ∧ i = .int .i64 j ∧ Hid (R = endB acts j) ∧ Hid (Below w.heap.size w wr2)) (fun i _ => L - (intOf i).toNat)
     case atStart => exact ⟨0, Nat.zero_le _, rfl, hT2, hbLH⟩
     case round =>
      obtain ⟨j, hj, rfl, hz, hB⟩ := hrel
      by_cases hlt2 : j < L
      ·have hlt2' : (j : Int) < L := by omega
       have hj2 : j < 2 := by have := hL1.out; omega
       have hc : Hid (Calls Tryz.prog 70 #[.slice a acts.length c, .int .i64 j] wr fun e w' => e = .returned (.bool (hasL acts j)) ∧ Below wr.heap.size wr w') := hHas2.out wr hB.out j
       have e0 : Hid (hasL acts j = true → R = false) := fun h => by rw [hz.out, hE0.out j hj2 h]
       have e1 : Hid (hasL acts j = false → R = endB acts (j + 1)) := fun h => by rw [hz.out, hE1.out j hj2 h]
       generalize hasL acts j = hv at hc e0 e1
       cases hv with
       | true =>
        go_wp2_with (go_at_call 70; refine hc.out.mono ?_; rintro e w2 ⟨rfl, hb2⟩)
        go_ret
        exact ⟨by rw [e0.out (by trivial)]; rfl, below_on hB.out hb2⟩
       | false =>
        go_wp2_with (go_at_call 70; refine hc.out.mono ?_; rintro e w2 ⟨rfl, hb2⟩)
        go_roundw
        case rel => exact ⟨j + 1, by omega, by go_num, e1.out (by trivial), below_on hB.out hb2⟩
        case measure => simp [intOf]; omega
      ·have hje : j = L := by omega
       have hr : Hid (R = true) := by show _ = _; rw [hz.out, hEnd.out j (by omega)]
       go_wp2
       go_ret
       exact ⟨by rw [hr.out]; rfl, hB.out⟩
 ·have h4' : (4 : Int) < acts.length := by omega
  have hr : Hid (R = false) := by show _ = _; rw [hEq.out]; simp [h4]
  clear hEq
  go_enter Tryz.func49, Tryz.ntmps49
  go_wp2
  go_ret
  exact ⟨by rw [hr.out]; rfl, hBW.out⟩
end Go.Proofs.YtknbchheoloaoaaGreat

/- impl.LitmusOk, walked. -/
namespace Go.Proofs.YtknbchheoloaoaaGreat
set_option linter.unusedVariables false
open Go.ChangeShapes Go.WideShapes Go.ChangeAt Go.RowKit

set_option maxRecDepth 1000000 in
set_option maxHeartbeats 2000000 in
theorem allRow_calls (p : List ActL → Bool) (lit : Array Value) (v : Value) (xs : List (List ActL)) (w : World) (lo hi : Nat) (hh : hi ≤ w.heap.size) (ht : ListAt ThrR 1 true lo hi w v xs) (hn : xs.length ≤ 1048576)
  (hG : ∀ x ∈ xs, ∀ (W : World) (u : Value), hi ≤ W.heap.size → ListAt ActR 3 true lo hi W u x → Calls Tryz.prog 49 #[.agg lit, u] W fun e w' => e = .returned (.bool (p x)) ∧ Below W.heap.size W w') :
  Calls Tryz.prog 48 #[v, .func (.func 49) #[.agg lit] #[]] w fun e w' => e = .returned (.bool (xs.all p)) ∧ Below w.heap.size w w' := by
 obtain ⟨a, c, rfl⟩ := ht.form
 have htH : Hid (∀ W, Below w.heap.size w W → ListAt ThrR 1 true lo hi W (.slice a xs.length c) xs) := fun W hW => ht.kept ThrR.stable (Nat.le_refl _) (Nat.le_refl _) ((Same.below hW).mono (Nat.zero_le _) hh)
 have hhH : Hid (∀ W, Below w.heap.size w W → hi ≤ W.heap.size) := fun W hW => by have := hW.size; omega
 have gH : Hid (∀ x ∈ xs, ∀ (W : World) (u : Value), hi ≤ W.heap.size → ListAt ActR 3 true lo hi W u x → Calls Tryz.prog 49 #[.agg lit, u] W fun e w' => e = .returned (.bool (p x)) ∧ Below W.heap.size W w') := hG
 obtain ⟨R, hR⟩ : ∃ R, xs.all p = R := ⟨_, rfl⟩
 rw [hR]
 have hRH : Hid (xs.all p = R) := hR
 clear hR ht hh hG
 go_enter Tryz.func48, Tryz.ntmps48
 go_wp2
 go_loopw [9] (fun i wr => ∃ m : Nat, m ≤ xs.length ∧ i = .int .i64 m ∧ Hid ((xs.drop m).all p = R) ∧ Hid (Below w.heap.size w wr)) (fun i _ => xs.length - (intOf i).toNat)
 case atStart => exact ⟨0, Nat.zero_le _, rfl, hRH.out, Below.refl _ _⟩
 case round =>
  obtain ⟨m, hm, rfl, hz, hB⟩ := hrel
  by_cases hlt : m < xs.length
  ·obtain ⟨b, off, row, rfl, hbb, hrl, hrr, ⟨u, rfl, hlu⟩⟩ := (htH.out wr hB.out).at m hlt
   have hlt' : (m : Int) < (xs.length : Int) := by omega
   have hcell : wr.cell? ⟨b, off + m, none⟩ = some u := by simpa using hrr 0 u rfl
   have hmem := List.getElem_mem hlt
   have hdr := List.drop_eq_getElem_cons hlt
   obtain ⟨x, hxm⟩ : ∃ x, x = xs[m] := ⟨_, rfl⟩
   rw [← hxm] at hlu hdr hmem
   have hc : Hid (Calls Tryz.prog 49 #[.agg lit, u] wr fun e w' => e = .returned (.bool (p x)) ∧ Below wr.heap.size wr w') := gH.out x hmem wr u (hhH.out wr hB.out) hlu
   have hstep : Hid (R = (p x && (xs.drop (m + 1)).all p)) := by
    have := hz.out
    rw [hdr] at this
    exact this.symm
   obtain ⟨ua, uc, rfl⟩ := hlu.form
   obtain ⟨ib, hib⟩ : ∃ ib, p x = ib := ⟨_, rfl⟩
   rw [hib] at hstep hc
   clear hrr hrl hxm hdr hmem hib hlu
   generalize x.length = ln at hc hcell
   cases ib with
   | false =>
    go_wp2_with (go_at_call 49; refine hc.out.mono ?_; rintro e w2 ⟨rfl, hb2⟩)
    go_ret
    exact ⟨by rw [hstep.out]; rfl, below_on hB.out hb2⟩
   | true =>
    go_wp2_with (go_at_call 49; refine hc.out.mono ?_; rintro e w2 ⟨rfl, hb2⟩)
    go_roundw
    case rel => exact ⟨m + 1, by omega, by go_num, (show _ = R by rw [hstep.out]; rfl), below_on hB.out hb2⟩
    case measure => simp [intOf]; omega
  ·have hend := hz.out
   rw [List.drop_eq_nil_of_le (by omega)] at hend
   have hR : R = true := hend.symm
   subst hR
   clear hend
   go_wp2
   go_ret
   exact ⟨rfl, hB.out⟩

set_option maxRecDepth 1000000 in
set_option maxHeartbeats 4000000 in
theorem implLit_calls (x : LitL) (w : World) (row : List Value) (lo hi : Nat) (hh : hi ≤ w.heap.size) (hx : LitR true lo hi w row x) (hs : x.small) :
  Calls Tryz.prog 25 #[.agg row.toArray] w fun e w' => e = .returned (.bool (litB x)) ∧ Below w.heap.size w w' := by
 obtain ⟨v, rfl, hv⟩ := hx
 obtain ⟨ta, tc, rfl⟩ := hv.form
 have hmf : ∀ (fn : Fn) (first cap : Array Value) (w : World), (Instr.makeFunc fn first cap).run Tryz.prog w = .ok (.func fn first cap) w := fun _ _ _ _ => rfl
 have hBW : Hid (Below w.heap.size w (w.alloc (.cells #[.int .i64 x.vars, .int .i64 x.vol, .int .i64 x.locks, .slice ta x.thr.length tc] 34))) := below_1 _ _
 have hB : Hid (litB x = (litHead x && x.thr.all (threadB x.vars x.locks))) := rfl
 have hHd : Hid (litHead x = (btw x.vars 0 4 && (btw x.vol 0 x.vars && (btw x.locks 0 2 && (decide (1 ≤ x.thr.length) && decide (x.thr.length ≤ 3)))))) := rfl
 have hn : x.thr.length ≤ 1048576 := hs.1
 have hAll : Hid (0 ≤ x.vars ∧ x.vars ≤ 4 → 0 ≤ x.locks ∧ x.locks ≤ 2 → Calls Tryz.prog 48 #[.slice ta x.thr.length tc, .func (.func 49) #[.agg #[.int .i64 x.vars, .int .i64 x.vol, .int .i64 x.locks, .slice ta x.thr.length tc]] #[]] (w.alloc (.cells #[.int .i64 x.vars, .int .i64 x.vol, .int .i64 x.locks, .slice ta x.thr.length tc] 34)) fun e w' => e = .returned (.bool (x.thr.all (threadB x.vars x.locks))) ∧ Below (w.alloc (.cells #[.int .i64 x.vars, .int .i64 x.vol, .int .i64 x.locks, .slice ta x.thr.length tc] 34)).heap.size (w.alloc (.cells #[.int .i64 x.vars, .int .i64 x.vol, .int .i64 x.locks, .slice ta x.thr.length tc] 34)) w') := fun b0 b2 => by
  refine allRow_calls _ _ _ _ _ lo hi (by have := hBW.out.size; omega) (hv.kept ThrR.stable (Nat.le_refl _) (Nat.le_refl _) ((Same.below hBW.out).mono (Nat.zero_le _) hh)) hn fun y hy W u hW hu => ?_
  obtain ⟨ua, uc, rfl⟩ := hu.form
  exact player_calls _ _ _ _ _ _ _ _ _ W lo hi hW b0.1 b0.2 b2.1 b2.2 hu (hs.2 y hy) hu.cap
 have b0i : Hid (btw x.vars 0 4 = true → 0 ≤ x.vars ∧ x.vars ≤ 4) := fun h => by simpa [btw] using h
 have b2i : Hid (btw x.locks 0 2 = true → 0 ≤ x.locks ∧ x.locks ≤ 2) := fun h => by simpa [btw] using h
 generalize litB x = tb at hB ⊢
 generalize x.thr.all (threadB x.vars x.locks) = ab at hB hAll
 clear hv hh hs
 cases q0 : btw x.vars 0 4 with
 | false =>
  have hT : Hid (tb = false) := by show _ = _; rw [hB.out, hHd.out, q0]; rfl
  clear hB hHd hAll
  go_enter Tryz.func25, Tryz.ntmps25
  go_wp2_with (go_at_call 47; refine (betweenI_calls _ _ _ _).mono ?_; rintro e w' ⟨rfl, rfl⟩)
  go_ret
  exact ⟨by rw [hT.out]; rfl, hBW.out⟩
 | true =>
  cases q1 : btw x.vol 0 x.vars with
  | false =>
   have hT : Hid (tb = false) := by show _ = _; rw [hB.out, hHd.out, q0, q1]; rfl
   clear hB hHd hAll
   go_enter Tryz.func25, Tryz.ntmps25
   go_wp2_with (go_at_call 47; refine (betweenI_calls _ _ _ _).mono ?_; rintro e w' ⟨rfl, rfl⟩)
   go_ret
   exact ⟨by rw [hT.out]; rfl, hBW.out⟩
  | true =>
   cases q2 : btw x.locks 0 2 with
   | false =>
    have hT : Hid (tb = false) := by show _ = _; rw [hB.out, hHd.out, q0, q1, q2]; rfl
    clear hB hHd hAll
    go_enter Tryz.func25, Tryz.ntmps25
    go_wp2_with (go_at_call 47; refine (betweenI_calls _ _ _ _).mono ?_; rintro e w' ⟨rfl, rfl⟩)
    go_ret
    exact ⟨by rw [hT.out]; rfl, hBW.out⟩
   | true =>
    have hT : Hid (tb = (btw x.thr.length 1 3 && ab)) := by
     show _ = _
     rw [hB.out, hHd.out, q0, q1, q2]
     have e1 : decide (1 ≤ x.thr.length) = decide ((1 : Int) ≤ x.thr.length) := by simp; omega
     have e2 : decide (x.thr.length ≤ 3) = decide ((x.thr.length : Int) ≤ 3) := by simp; omega
     rw [e1, e2]; rfl
    have hc : Hid _ := hAll.out (b0i.out q0) (b2i.out q2)
    clear hB hHd hAll b0i b2i
    cases q3 : btw x.thr.length 1 3 with
    | false =>
     have hT2 : Hid (tb = false) := by show _ = _; rw [hT.out, q3]; rfl
     clear hT
     go_enter Tryz.func25, Tryz.ntmps25
     go_wp2_with (go_at_call 47; refine (betweenI_calls _ _ _ _).mono ?_; rintro e w' ⟨rfl, rfl⟩)
     go_ret
     exact ⟨by rw [hT2.out]; rfl, hBW.out⟩
    | true =>
     have hT2 : Hid (tb = ab) := by show _ = _; rw [hT.out, q3]; rfl
     clear hT
     go_enter Tryz.func25, Tryz.ntmps25
     go_wp2_with (first | (go_at_call 47; refine (betweenI_calls _ _ _ _).mono ?_; rintro e w' ⟨rfl, rfl⟩) | (go_at_call 48; refine (show Calls _ _ _ _ _ from hc.out).mono ?_; rintro e w2 ⟨rfl, hb2⟩))
     go_ret
     exact ⟨by rw [hT2.out]; rfl, below_on hBW.out hb2⟩
end Go.Proofs.YtknbchheoloaoaaGreat
