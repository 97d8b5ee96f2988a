/- impl's answer on one thread. -/
import Derived.Test.YtohlkiadofmfpaaLtH
namespace Go.Proofs.Ytohlkiadofmfpaa
set_option linter.unusedVariables false
open Go.ChangeShapes Go.WideShapes Go.ChangeAt Go.RowKit

set_option maxRecDepth 1000000 in
set_option maxHeartbeats 4000000 in
theorem player_calls (vars vol locks : Int) (ta : Option Addr) (tn tc : Nat) (a : Option Addr) (c : Nat) (acts : List ActL) (w : World) (lo hi : Nat) (hh : hi ≤ w.heap.size) (hv0 : 0 ≤ vars) (hv1 : vars ≤ 4) (hl0 : 0 ≤ locks) (hl1 : locks ≤ 2) (ht : ListAt ActR 3 true lo hi w (.slice a acts.length c) acts) (hn : acts.length ≤ 1048576) (hcap : acts.length ≤ c) :
    Calls Try.prog 15 #[.agg #[.int .i64 vars, .int .i64 vol, .int .i64 locks, .slice ta tn tc], .slice a acts.length c] w fun e w' => e = .returned (.bool (threadB vars locks acts)) ∧ Below w.heap.size w w' := by
  have hmf : ∀ (fn : Fn) (first cap : Array Value) (w : World), (Instr.makeFunc fn first cap).run Try.prog w = .ok (.func fn first cap) w := fun _ _ _ _ => rfl
  have htH : Hid (∀ W, Below w.heap.size w W → ListAt ActR 3 true lo hi W (.slice a acts.length c) acts) := fun W hW => ht.kept ActR.stable (Nat.le_refl _) (Nat.le_refl _) ((Same.below hW).mono (Nat.zero_le _) hh)
  have hhH : Hid (∀ W, Below w.heap.size w W → hi ≤ W.heap.size) := fun W hW => by have := hW.size; omega
  have isz : Hid ((Try.prog.info? 45).map (·.size) = some 3) := by show _ = _; kernel_rfl
  have hAll : Hid (∀ W, Below w.heap.size w W → Calls Try.prog 19 #[.slice a acts.length c, .func (.func 20) #[.agg #[.int .i64 vars, .int .i64 vol, .int .i64 locks, .slice ta tn tc]] #[]] W fun e w' => e = .returned (.bool (acts.all (actC vars locks))) ∧ Below W.heap.size W w') := fun W hW =>
    allAct_calls _ _ _ _ W lo hi (hhH.out W hW) (htH.out W hW) hn fun x _ W2 => actC_calls vars vol locks ta tn tc x W2 hv0 hv1 hl0 hl1
  have hHas : Hid (∀ W, Below w.heap.size w W → ∀ (m : Nat), m ≤ acts.length → ∀ l : Int, Calls Try.prog 22 #[.slice a m c, .int .i64 l] W fun e w' => e = .returned (.bool (hasL (acts.take m) l)) ∧ Below W.heap.size W w') := fun W hW m hm l => by
    have hlen : (acts.take m).length = m := by simp [hm]
    have h := hasL_calls a c (acts.take m) l W lo hi (hhH.out W hW) (by rw [hlen]; exact (htH.out W hW).take hm) (by omega)
    rw [hlen] at h; exact h
  have hEq : Hid (threadB vars locks acts = (decide (acts.length ≤ 4) && (acts.all (actC vars locks) && (okFrom [] acts && (!hasL acts 0 && !hasL acts 1))))) := thread_eq hl1 acts
  have hL1 : Hid (locks ≤ 2) := hl1
  generalize threadB vars locks acts = R at hEq ⊢
  have hLW : Hid (LitW w (w.alloc (.cells #[.int .i64 vars, .int .i64 vol, .int .i64 locks, .slice ta tn tc] 29)) vars vol locks (.slice ta tn tc)) := LitW.start _ _ _ _ _ _
  have hBW : Hid (Below w.heap.size w (w.alloc (.cells #[.int .i64 vars, .int .i64 vol, .int .i64 locks, .slice ta tn tc] 29))) := below_1 _ _
  clear ht hh hv0 hv1 hl1
  by_cases h4 : acts.length ≤ 4
  · have h4' : (acts.length : Int) ≤ 4 := by omega
    cases hall : acts.all (actC vars locks) with
    | false =>
      have hr : Hid (R = false) := by show _ = _; rw [hEq.out, hall]; simp
      rw [hall] at hAll
      clear hall hEq
      go_enter Try.func15, Try.ntmps15
      go_wp2_with (go_at_call 19; refine (hAll.out _ hBW.out).mono ?_; rintro e w2 ⟨rfl, hb2⟩)
      go_ret
      exact ⟨by rw [hr.out]; rfl, below_on hBW.out hb2⟩
    | true =>
      have hT : Hid (R = (okFrom (acts.take 0) (acts.drop 0) && endB acts 0)) := by
        show _ = _
        rw [hEq.out, hall, endB_zero]; simp [h4]
      have hEnd : Hid (∀ j : Nat, locks ≤ j → endB acts j = true) := fun j hj => endB_end hall hj
      rw [hall] at hAll
      clear hall hEq
      go_enter Try.func15, Try.ntmps15
      go_wp2_with (go_at_call 19; refine (hAll.out _ hBW.out).mono ?_; rintro e w2 ⟨rfl, hb2⟩)
      have hL2 : Hid (LitW w w2 vars vol locks (.slice ta tn tc)) := hLW.out.on hb2
      clear hb2 hLW hBW hAll
      go_loopw [20] (fun i wr => ∃ m : Nat, m ≤ acts.length ∧ i = .int .i64 m ∧ Hid (R = (okFrom (acts.take m) (acts.drop m) && endB acts 0)) ∧ Hid (LitW w wr vars vol locks (.slice ta tn tc))) (fun i _ => acts.length - (intOf i).toNat)
      case atStart => exact ⟨0, Nat.zero_le _, rfl, hT, hL2⟩
      case round =>
        obtain ⟨m, hm, rfl, hz, hL⟩ := hrel
        clear hT hL2
        by_cases hlt : m < acts.length
        · obtain ⟨b, off, row, rfl, hbb, hrl, hrr, hrx⟩ := (htH.out wr hL.out.hb).at m hlt
          have hlt' : (m : Int) < (acts.length : Int) := by omega
          have hm0 : (0 : Int) ≤ m := by omega
          have hmc : m ≤ c := by omega
          have hmc' : (m : Int) ≤ c := by omega
          have hx0 : Hid (badA (acts.take m) acts[m] = true → R = false) := fun h => by rw [hz.out, okFrom_bad hlt h]; rfl
          have hx1 : Hid (badA (acts.take m) acts[m] = false → R = (okFrom (acts.take (m + 1)) (acts.drop (m + 1)) && endB acts 0)) := fun h => by rw [hz.out, okFrom_good hlt h]
          have hrx : row = [.int .i64 acts[m].kind, .int .i64 acts[m].var, .int .i64 acts[m].n] := hrx
          generalize acts[m] = x at hrx hx0 hx1
          subst hrx
          have hrrH : Hid (wr.rangeAt b (off + m * 3) [.int .i64 x.kind, .int .i64 x.var, .int .i64 x.n]) := hrr
          obtain ⟨W1, hW1⟩ : ∃ W1 : World, W1 = wr.alloc (.cells #[.int .i64 x.kind, .int .i64 x.var, .int .i64 x.n] 45) := ⟨_, rfl⟩
          have hrng := rangeAt_heap (heap_alloc_new wr (.cells #[.int .i64 x.kind, .int .i64 x.var, .int .i64 x.n] 45))
          rw [← hW1] at hrng
          have s0 : W1.cell? ⟨wr.heap.size, 0, none⟩ = some (.int .i64 x.kind) := hrng 0 _ rfl
          have s1 : W1.cell? ⟨wr.heap.size, 1, none⟩ = some (.int .i64 x.var) := hrng 1 _ rfl
          have s2 : W1.cell? ⟨wr.heap.size, 2, none⟩ = some (.int .i64 x.n) := hrng 2 _ rfl
          have hLW1 : Hid (LitW w W1 vars vol locks (.slice ta tn tc)) := hL.out.on (by rw [hW1]; exact below_1 _ _)
          have hbad : Hid (badA (acts.take m) x = (isL x && (hasL (acts.take m) x.var == (x.kind == 4)))) := rfl
          have k0 := cell_regrown s0
          have k1 := cell_regrown s1
          have k2 := cell_regrown s2
          have cI : ∀ d os, Calls Try.prog 21 #[.agg #[.int .i64 x.kind, .int .i64 x.var, .int .i64 x.n]] (Sort.grow (redrawn W1 d) os) fun e w'' => e = .returned (.bool (isL x)) ∧ ∃ p : Regrown, w'' = Sort.grow (redrawn W1 p.d) p.os := fun d os => Calls.regrown_of (isL_calls x _)
          have cH : ∀ d os, Calls Try.prog 22 #[.slice (some ⟨b, off, none⟩) m c, .int .i64 x.var] (Sort.grow (redrawn W1 d) os) fun e w'' => e = .returned (.bool (hasL (acts.take m) x.var)) ∧ ∃ p : Regrown, w'' = Sort.grow (redrawn W1 p.d) p.os := fun d os => Calls.regrown_of (hHas.out _ (below_on hLW1.out.hb (below_regrown W1 d os)) m hm x.var)
          generalize hasL (acts.take m) x.var = hv at cH hbad
          generalize badA (acts.take m) x = bd at hx0 hx1 hbad
          generalize isL x = il at cI hbad
          clear hrng hrr hrl s0 s1 s2
          cases il with
          | false =>
            have hb0 : Hid (bd = false) := by show _ = _; rw [hbad.out]; rfl
            clear hbad
            go_wp2_with (first | (refine wpList_load_mid rfl 45 _ rfl b (off + m * 3) (by first | rfl | (simp; done)) _ _ hrrH.out Try.underlying45 rfl isz.out ?_))
            rw [← hW1]
            clear hW1
            refine wp_region_quiet_below (by kernel_rfl) (by kernel_rfl) ?_
            repeat (first | go_big_quiet_step (exact cI _ _) | quiet_step (exact cI _ _))
            refine wpQuiet_nil ?_
            intro _ hw'
            obtain ⟨⟨dq, osq⟩, hw''⟩ := hw'
            subst hw''
            have hLV : Hid (LitW w (Sort.grow (redrawn W1 dq) osq) vars vol locks (.slice ta tn tc)) := hLW1.out.on (below_regrown W1 dq osq)
            clear k0 k1 k2 cI cH hLW1
            generalize Sort.grow (redrawn W1 dq) osq = V at *
            go_wp2
            go_roundw
            case rel => exact ⟨m + 1, by omega, by go_num, hx1.out hb0.out, hLV⟩
            case measure => simp [intOf]; omega
          | true =>
            generalize hx4 : (x.kind == 4) = k4 at hbad
            by_cases hv4 : hv = k4
            · have hb0 : Hid (bd = true) := by show _ = _; rw [hbad.out, hv4]; simp
              subst hv4
              clear hbad
              go_wp2_with (first | (refine wpList_load_mid rfl 45 _ rfl b (off + m * 3) (by first | rfl | (simp; done)) _ _ hrrH.out Try.underlying45 rfl isz.out ?_))
              rw [← hW1]
              clear hW1
              refine wp_region_quiet_below (by kernel_rfl) (by kernel_rfl) ?_
              go_big_quiet_step (exact cI _ _)
              go_big_quiet_step (exact cI _ _)
              repeat (first | go_big_quiet_step (exact cH _ _) | quiet_step (exact cH _ _))
              refine wpQuiet_nil ?_
              intro _ hw'
              obtain ⟨⟨dq, osq⟩, hw''⟩ := hw'
              subst hw''
              have hLV : Hid (LitW w (Sort.grow (redrawn W1 dq) osq) vars vol locks (.slice ta tn tc)) := hLW1.out.on (below_regrown W1 dq osq)
              clear k0 k1 k2 cI cH hLW1
              generalize Sort.grow (redrawn W1 dq) osq = V at *
              go_wp2
              go_ret
              exact ⟨by rw [hx0.out hb0.out]; rfl, hLV.out.hb⟩
            · have hb0 : Hid (bd = false) := by show _ = _; rw [hbad.out]; cases hv <;> cases k4 <;> simp_all
              have hv4b : (hv == k4) = false := by simpa using hv4
              clear hbad hv4
              go_wp2_with (first | (refine wpList_load_mid rfl 45 _ rfl b (off + m * 3) (by first | rfl | (simp; done)) _ _ hrrH.out Try.underlying45 rfl isz.out ?_))
              rw [← hW1]
              clear hW1
              refine wp_region_quiet_below (by kernel_rfl) (by kernel_rfl) ?_
              go_big_quiet_step (exact cI _ _)
              go_big_quiet_step (exact cI _ _)
              repeat (first | go_big_quiet_step (exact cH _ _) | quiet_step (exact cH _ _))
              refine wpQuiet_nil ?_
              intro _ hw'
              obtain ⟨⟨dq, osq⟩, hw''⟩ := hw'
              subst hw''
              have hLV : Hid (LitW w (Sort.grow (redrawn W1 dq) osq) vars vol locks (.slice ta tn tc)) := hLW1.out.on (below_regrown W1 dq osq)
              clear k0 k1 k2 cI cH hLW1
              generalize Sort.grow (redrawn W1 dq) osq = V at *
              go_wp2
              go_roundw
              case rel => exact ⟨m + 1, by omega, by go_num, hx1.out hb0.out, hLV⟩
              case measure => simp [intOf]; omega
        · have hme : m = acts.length := by omega
          obtain ⟨hbL, hszL, c0, c1, c2, c3⟩ := hL.out
          have hT2 : Hid (R = endB acts 0) := by show _ = _; rw [hz.out, hme, List.drop_length]; rfl
          have hE0 : Hid (∀ j : Nat, j < 2 → hasL acts j = true → endB acts j = false) := fun j => endB_has
          have hE1 : Hid (∀ j : Nat, j < 2 → hasL acts j = false → endB acts j = endB acts (j + 1)) := fun j => endB_next
          have hHas2 : Hid (∀ W, Below w.heap.size w W → ∀ l : Int, Calls Try.prog 22 #[.slice a acts.length c, .int .i64 l] W fun e w' => e = .returned (.bool (hasL acts l)) ∧ Below W.heap.size W w') := fun W hW l => by
            have h := hHas.out W hW acts.length (Nat.le_refl _) l
            rw [List.take_length] at h; exact h
          have hbLH : Hid (Below w.heap.size w wr) := hbL
          clear hz hHas hbL c0 c1 c3 hme
          obtain ⟨L, hL'⟩ : ∃ L : Nat, locks = L := ⟨locks.toNat, by omega⟩
          subst hL'
          go_wp2
          rename World => wo
          go_loopw [42] (fun i wr2 => ∃ j : Nat, j ≤ L ∧ i = .int .i64 j ∧ Hid (R = endB acts j) ∧ Hid (Below w.heap.size w wr2)) (fun i _ => L - (intOf i).toNat)
          case atStart => exact ⟨0, Nat.zero_le _, rfl, hT2, hbLH⟩
          case round =>
            obtain ⟨j, hj, rfl, hz, hB⟩ := hrel
            by_cases hlt2 : j < L
            · have hlt2' : (j : Int) < L := by omega
              have hj2 : j < 2 := by have := hL1.out; omega
              have hc : Hid (Calls Try.prog 22 #[.slice a acts.length c, .int .i64 j] wr fun e w' => e = .returned (.bool (hasL acts j)) ∧ Below wr.heap.size wr w') := hHas2.out wr hB.out j
              have e0 : Hid (hasL acts j = true → R = false) := fun h => by rw [hz.out, hE0.out j hj2 h]
              have e1 : Hid (hasL acts j = false → R = endB acts (j + 1)) := fun h => by rw [hz.out, hE1.out j hj2 h]
              generalize hasL acts j = hv at hc e0 e1
              cases hv with
              | true =>
                go_wp2_with (go_at_call 22; refine hc.out.mono ?_; rintro e w2 ⟨rfl, hb2⟩)
                go_ret
                exact ⟨by rw [e0.out (by trivial)]; rfl, below_on hB.out hb2⟩
              | false =>
                go_wp2_with (go_at_call 22; refine hc.out.mono ?_; rintro e w2 ⟨rfl, hb2⟩)
                go_roundw
                case rel => exact ⟨j + 1, by omega, by go_num, e1.out (by trivial), below_on hB.out hb2⟩
                case measure => simp [intOf]; omega
            · have hje : j = L := by omega
              have hr : Hid (R = true) := by show _ = _; rw [hz.out, hEnd.out j (by omega)]
              go_wp2
              go_ret
              exact ⟨by rw [hr.out]; rfl, hB.out⟩
  · have h4' : (4 : Int) < acts.length := by omega
    have hr : Hid (R = false) := by show _ = _; rw [hEq.out]; simp [h4]
    clear hEq
    go_enter Try.func15, Try.ntmps15
    go_wp2
    go_ret
    exact ⟨by rw [hr.out]; rfl, hBW.out⟩
end Go.Proofs.Ytohlkiadofmfpaa
