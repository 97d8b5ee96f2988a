/- impl.LitmusOk, walked. -/
import Derived.Test.YtohlkiadofmfpaaLtJ
namespace Go.Proofs.Ytohlkiadofmfpaa
set_option linter.unusedVariables false
open Go.ChangeShapes Go.WideShapes Go.ChangeAt Go.RowKit

set_option maxRecDepth 1000000 in
set_option maxHeartbeats 2000000 in
theorem allRow_calls (p : List ActL → Bool) (lit : Array Value) (v : Value) (xs : List (List ActL)) (w : World) (lo hi : Nat) (hh : hi ≤ w.heap.size) (ht : ListAt ThrR 1 true lo hi w v xs) (hn : xs.length ≤ 1048576)
    (hG : ∀ x ∈ xs, ∀ (W : World) (u : Value), hi ≤ W.heap.size → ListAt ActR 3 true lo hi W u x → Calls Try.prog 15 #[.agg lit, u] W fun e w' => e = .returned (.bool (p x)) ∧ Below W.heap.size W w') :
    Calls Try.prog 14 #[v, .func (.func 15) #[.agg lit] #[]] w fun e w' => e = .returned (.bool (xs.all p)) ∧ Below w.heap.size w w' := by
  obtain ⟨a, c, rfl⟩ := ht.form
  have htH : Hid (∀ W, Below w.heap.size w W → ListAt ThrR 1 true lo hi W (.slice a xs.length c) xs) := fun W hW => ht.kept ThrR.stable (Nat.le_refl _) (Nat.le_refl _) ((Same.below hW).mono (Nat.zero_le _) hh)
  have hhH : Hid (∀ W, Below w.heap.size w W → hi ≤ W.heap.size) := fun W hW => by have := hW.size; omega
  have gH : Hid (∀ x ∈ xs, ∀ (W : World) (u : Value), hi ≤ W.heap.size → ListAt ActR 3 true lo hi W u x → Calls Try.prog 15 #[.agg lit, u] W fun e w' => e = .returned (.bool (p x)) ∧ Below W.heap.size W w') := hG
  obtain ⟨R, hR⟩ : ∃ R, xs.all p = R := ⟨_, rfl⟩
  rw [hR]
  have hRH : Hid (xs.all p = R) := hR
  clear hR ht hh hG
  go_enter Try.func14, Try.ntmps14
  go_wp2
  go_loopw [9] (fun i wr => ∃ m : Nat, m ≤ xs.length ∧ i = .int .i64 m ∧ Hid ((xs.drop m).all p = R) ∧ Hid (Below w.heap.size w wr)) (fun i _ => xs.length - (intOf i).toNat)
  case atStart => exact ⟨0, Nat.zero_le _, rfl, hRH.out, Below.refl _ _⟩
  case round =>
    obtain ⟨m, hm, rfl, hz, hB⟩ := hrel
    by_cases hlt : m < xs.length
    · obtain ⟨b, off, row, rfl, hbb, hrl, hrr, ⟨u, rfl, hlu⟩⟩ := (htH.out wr hB.out).at m hlt
      have hlt' : (m : Int) < (xs.length : Int) := by omega
      have hcell : wr.cell? ⟨b, off + m, none⟩ = some u := by simpa using hrr 0 u rfl
      have hmem := List.getElem_mem hlt
      have hdr := List.drop_eq_getElem_cons hlt
      obtain ⟨x, hxm⟩ : ∃ x, x = xs[m] := ⟨_, rfl⟩
      rw [← hxm] at hlu hdr hmem
      have hc : Hid (Calls Try.prog 15 #[.agg lit, u] wr fun e w' => e = .returned (.bool (p x)) ∧ Below wr.heap.size wr w') := gH.out x hmem wr u (hhH.out wr hB.out) hlu
      have hstep : Hid (R = (p x && (xs.drop (m + 1)).all p)) := by
        have := hz.out
        rw [hdr] at this
        exact this.symm
      obtain ⟨ua, uc, rfl⟩ := hlu.form
      obtain ⟨ib, hib⟩ : ∃ ib, p x = ib := ⟨_, rfl⟩
      rw [hib] at hstep hc
      clear hrr hrl hxm hdr hmem hib hlu
      generalize x.length = ln at hc hcell
      cases ib with
      | false =>
        go_wp2_with (go_at_call 15; refine hc.out.mono ?_; rintro e w2 ⟨rfl, hb2⟩)
        go_ret
        exact ⟨by rw [hstep.out]; rfl, below_on hB.out hb2⟩
      | true =>
        go_wp2_with (go_at_call 15; refine hc.out.mono ?_; rintro e w2 ⟨rfl, hb2⟩)
        go_roundw
        case rel => exact ⟨m + 1, by omega, by go_num, (show _ = R by rw [hstep.out]; rfl), below_on hB.out hb2⟩
        case measure => simp [intOf]; omega
    · have hend := hz.out
      rw [List.drop_eq_nil_of_le (by omega)] at hend
      have hR : R = true := hend.symm
      subst hR
      clear hend
      go_wp2
      go_ret
      exact ⟨rfl, hB.out⟩

set_option maxRecDepth 1000000 in
set_option maxHeartbeats 4000000 in
theorem implLit_calls (x : LitL) (w : World) (row : List Value) (lo hi : Nat) (hh : hi ≤ w.heap.size) (hx : LitR true lo hi w row x) (hs : x.small) :
    Calls Try.prog 7 #[.agg row.toArray] w fun e w' => e = .returned (.bool (litB x)) ∧ Below w.heap.size w w' := by
  obtain ⟨v, rfl, hv⟩ := hx
  obtain ⟨ta, tc, rfl⟩ := hv.form
  have hmf : ∀ (fn : Fn) (first cap : Array Value) (w : World), (Instr.makeFunc fn first cap).run Try.prog w = .ok (.func fn first cap) w := fun _ _ _ _ => rfl
  have hBW : Hid (Below w.heap.size w (w.alloc (.cells #[.int .i64 x.vars, .int .i64 x.vol, .int .i64 x.locks, .slice ta x.thr.length tc] 29))) := below_1 _ _
  have hB : Hid (litB x = (litHead x && x.thr.all (threadB x.vars x.locks))) := rfl
  have hHd : Hid (litHead x = (btw x.vars 0 4 && (btw x.vol 0 x.vars && (btw x.locks 0 2 && (decide (1 ≤ x.thr.length) && decide (x.thr.length ≤ 3)))))) := rfl
  have hn : x.thr.length ≤ 1048576 := hs.1
  have hAll : Hid (0 ≤ x.vars ∧ x.vars ≤ 4 → 0 ≤ x.locks ∧ x.locks ≤ 2 → Calls Try.prog 14 #[.slice ta x.thr.length tc, .func (.func 15) #[.agg #[.int .i64 x.vars, .int .i64 x.vol, .int .i64 x.locks, .slice ta x.thr.length tc]] #[]] (w.alloc (.cells #[.int .i64 x.vars, .int .i64 x.vol, .int .i64 x.locks, .slice ta x.thr.length tc] 29)) fun e w' => e = .returned (.bool (x.thr.all (threadB x.vars x.locks))) ∧ Below (w.alloc (.cells #[.int .i64 x.vars, .int .i64 x.vol, .int .i64 x.locks, .slice ta x.thr.length tc] 29)).heap.size (w.alloc (.cells #[.int .i64 x.vars, .int .i64 x.vol, .int .i64 x.locks, .slice ta x.thr.length tc] 29)) w') := fun b0 b2 => by
    refine allRow_calls _ _ _ _ _ lo hi (by have := hBW.out.size; omega) (hv.kept ThrR.stable (Nat.le_refl _) (Nat.le_refl _) ((Same.below hBW.out).mono (Nat.zero_le _) hh)) hn fun y hy W u hW hu => ?_
    obtain ⟨ua, uc, rfl⟩ := hu.form
    exact player_calls _ _ _ _ _ _ _ _ _ W lo hi hW b0.1 b0.2 b2.1 b2.2 hu (hs.2 y hy) hu.cap
  have b0i : Hid (btw x.vars 0 4 = true → 0 ≤ x.vars ∧ x.vars ≤ 4) := fun h => by simpa [btw] using h
  have b2i : Hid (btw x.locks 0 2 = true → 0 ≤ x.locks ∧ x.locks ≤ 2) := fun h => by simpa [btw] using h
  generalize litB x = tb at hB ⊢
  generalize x.thr.all (threadB x.vars x.locks) = ab at hB hAll
  clear hv hh hs
  cases q0 : btw x.vars 0 4 with
  | false =>
    have hT : Hid (tb = false) := by show _ = _; rw [hB.out, hHd.out, q0]; rfl
    clear hB hHd hAll
    go_enter Try.func7, Try.ntmps7
    go_wp2_with (go_at_call 13; refine (betweenI_calls _ _ _ _).mono ?_; rintro e w' ⟨rfl, rfl⟩)
    go_ret
    exact ⟨by rw [hT.out]; rfl, hBW.out⟩
  | true =>
    cases q1 : btw x.vol 0 x.vars with
    | false =>
      have hT : Hid (tb = false) := by show _ = _; rw [hB.out, hHd.out, q0, q1]; rfl
      clear hB hHd hAll
      go_enter Try.func7, Try.ntmps7
      go_wp2_with (go_at_call 13; refine (betweenI_calls _ _ _ _).mono ?_; rintro e w' ⟨rfl, rfl⟩)
      go_ret
      exact ⟨by rw [hT.out]; rfl, hBW.out⟩
    | true =>
      cases q2 : btw x.locks 0 2 with
      | false =>
        have hT : Hid (tb = false) := by show _ = _; rw [hB.out, hHd.out, q0, q1, q2]; rfl
        clear hB hHd hAll
        go_enter Try.func7, Try.ntmps7
        go_wp2_with (go_at_call 13; refine (betweenI_calls _ _ _ _).mono ?_; rintro e w' ⟨rfl, rfl⟩)
        go_ret
        exact ⟨by rw [hT.out]; rfl, hBW.out⟩
      | true =>
        have hT : Hid (tb = (btw x.thr.length 1 3 && ab)) := by
          show _ = _
          rw [hB.out, hHd.out, q0, q1, q2]
          have e1 : decide (1 ≤ x.thr.length) = decide ((1 : Int) ≤ x.thr.length) := by simp; omega
          have e2 : decide (x.thr.length ≤ 3) = decide ((x.thr.length : Int) ≤ 3) := by simp; omega
          rw [e1, e2]; rfl
        have hc : Hid _ := hAll.out (b0i.out q0) (b2i.out q2)
        clear hB hHd hAll b0i b2i
        cases q3 : btw x.thr.length 1 3 with
        | false =>
          have hT2 : Hid (tb = false) := by show _ = _; rw [hT.out, q3]; rfl
          clear hT
          go_enter Try.func7, Try.ntmps7
          go_wp2_with (go_at_call 13; refine (betweenI_calls _ _ _ _).mono ?_; rintro e w' ⟨rfl, rfl⟩)
          go_ret
          exact ⟨by rw [hT2.out]; rfl, hBW.out⟩
        | true =>
          have hT2 : Hid (tb = ab) := by show _ = _; rw [hT.out, q3]; rfl
          clear hT
          go_enter Try.func7, Try.ntmps7
          go_wp2_with (first | (go_at_call 13; refine (betweenI_calls _ _ _ _).mono ?_; rintro e w' ⟨rfl, rfl⟩) | (go_at_call 14; refine (show Calls _ _ _ _ _ from hc.out).mono ?_; rintro e w2 ⟨rfl, hb2⟩))
          go_ret
          exact ⟨by rw [hT2.out]; rfl, below_on hBW.out hb2⟩
end Go.Proofs.Ytohlkiadofmfpaa
