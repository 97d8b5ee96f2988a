/- A class, by the specification. -/
import Derived.Test.YthbledmeghkfpaaGreatDoorClsL
import Derived.Deep.DeepCutAuto
namespace Go.Proofs.YthbledmeghkfpaaGreatDoor
set_option linter.unusedVariables false
open Go.ChangeShapes Go.WideShapes Go.ChangeAt Go.RowKit

theorem asc_one (ps : List ByteArray) : ascFrom (ahead ps 1) (ps.drop 1) = ascFrom none ps := by
  cases ps <;> rfl
theorem nil_beqM (l : List UInt8) : (l == []) = l.isEmpty := by cases l <;> rfl

set_option maxRecDepth 1000000 in
set_option maxHeartbeats 8000000 in
theorem specClass_walk (N S : ByteArray) (f : Int) (a1 : Option Addr) (n1 c1 : Nat) (a2 : Option Addr) (n2 c2 : Nat) (a3 : Option Addr) (n3 c3 : Nat) (a4 : Option Addr) (n4 c4 : Nat) (w : World) (nm : ByteArray → Bool) (nf : Value → Bool) (gb fs ms : Bool) (ps : List ByteArray) (lo hi : Nat) (hh : hi ≤ w.heap.size)
    (hN : N.size ≤ 1048576) (hS : S.size ≤ 1048576) (h2n : n2 ≤ 1048576) (hps : ps.length = n2) (ht : ListAt StrR 1 true lo hi w (.slice a2 n2 c2) ps)
    (q1 : ∀ s W, s.size ≤ 1048576 → Calls Tryz.prog 23 #[.string s] W fun e w' => e = .returned (.bool (nm s)) ∧ w' = W)
    (q2 : ∀ v W, (v = .slice a1 n1 c1 ∨ v = .slice a2 n2 c2) → Below w.heap.size w W → Calls Tryz.prog 24 #[v] W fun e w' => e = .returned (.bool (nf v)) ∧ ∃ n, w' = W.drewN n)
    (q3 : ∀ W, Calls Tryz.prog 25 #[.int .i64 f, .int .i64 390] W fun e w' => e = .returned (.bool gb) ∧ w' = W)
    (q4 : ∀ W, Below w.heap.size w W → Calls Tryz.prog 27 #[.agg #[.string N, .string S, .slice a1 n1 c1, .int .i64 f, .slice a2 n2 c2, .slice a3 n3 c3, .slice a4 n4 c4]] W fun e w' => e = .returned (.bool fs) ∧ Below W.heap.size W w')
    (q5 : ∀ W, Below w.heap.size w W → Calls Tryz.prog 28 #[.agg #[.string N, .string S, .slice a1 n1 c1, .int .i64 f, .slice a2 n2 c2, .slice a3 n3 c3, .slice a4 n4 c4]] W fun e w' => e = .returned (.bool ms) ∧ Below W.heap.size W w') :
    Calls Tryz.prog 10 #[.agg #[.string N, .string S, .slice a1 n1 c1, .int .i64 f, .slice a2 n2 c2, .slice a3 n3 c3, .slice a4 n4 c4]] w fun e w' => e = .returned (.bool (!(!nm N || (((S.toList == []) != (N.toList == [79, 98, 106, 101, 99, 116])) || (!(S.toList == []) && !nm S))) && (!(!nf (.slice a1 n1 c1) || (!nf (.slice a2 n2 c2) || (!gb || (hasB f 256 != decide ((0 : Int) < n2))))) && (ascFrom none ps && (!(hasB f 2 && hasB f 260) && (!(hasB f 128 && (!hasB f 4 || !(S.toList == [79, 98, 106, 101, 99, 116]))) && (fs && ms))))))) ∧ Below w.heap.size w w' := by
  have nH : Hid (∀ s W, s.size ≤ 1048576 → Calls Tryz.prog 23 #[.string s] W fun e w' => e = .returned (.bool (nm s)) ∧ w' = W) := q1
  have kH : Hid (∀ v n, (v = .slice a1 n1 c1 ∨ v = .slice a2 n2 c2) → Calls Tryz.prog 24 #[v] ((w.alloc (.cells #[.string N, .string S, .slice a1 n1 c1, .int .i64 f, .slice a2 n2 c2, .slice a3 n3 c3, .slice a4 n4 c4] 39)).drewN n) fun e w' => e = .returned (.bool (nf v)) ∧ ∃ k, w' = ((w.alloc (.cells #[.string N, .string S, .slice a1 n1 c1, .int .i64 f, .slice a2 n2 c2, .slice a3 n3 c3, .slice a4 n4 c4] 39)).drewN n).drewN k) := fun v n hv => q2 v _ hv (below_drewN (below_1 _ _) n)
  have gH : Hid (∀ W, Calls Tryz.prog 25 #[.int .i64 f, .int .i64 390] W fun e w' => e = .returned (.bool gb) ∧ w' = W) := q3
  have fH : Hid (∀ g W, Calls Tryz.prog 26 #[.int .i64 f, .int .i64 g] W fun e w' => e = .returned (.bool (hasB f g)) ∧ w' = W) := fun g W => l2Has_calls f g W
  have qq4 : Hid (∀ W, Below w.heap.size w W → Calls Tryz.prog 27 #[.agg #[.string N, .string S, .slice a1 n1 c1, .int .i64 f, .slice a2 n2 c2, .slice a3 n3 c3, .slice a4 n4 c4]] W fun e w' => e = .returned (.bool fs) ∧ Below W.heap.size W w') := q4
  have qq5 : Hid (∀ W, Below w.heap.size w W → Calls Tryz.prog 28 #[.agg #[.string N, .string S, .slice a1 n1 c1, .int .i64 f, .slice a2 n2 c2, .slice a3 n3 c3, .slice a4 n4 c4]] W fun e w' => e = .returned (.bool ms) ∧ Below W.heap.size W w') := q5
  have htH : Hid (∀ W, Below w.heap.size w W → ListAt StrR 1 true lo hi W (.slice a2 n2 c2) ps) := fun W hW => ht.kept StrR.stable (Nat.le_refl _) (Nat.le_refl _) ((Same.below hW).mono (Nat.zero_le _) hh)
  have hpsH : Hid (ps.length = n2) := hps
  obtain ⟨B1, hB1⟩ : ∃ B, (!nm N || (((S.toList == []) != (N.toList == [79, 98, 106, 101, 99, 116])) || (!(S.toList == []) && !nm S))) = B := ⟨_, rfl⟩
  obtain ⟨B2, hB2⟩ : ∃ B, (!nf (.slice a1 n1 c1) || (!nf (.slice a2 n2 c2) || (!gb || (hasB f 256 != decide ((0 : Int) < n2))))) = B := ⟨_, rfl⟩
  obtain ⟨RA, hRA⟩ : ∃ B, ascFrom none ps = B := ⟨_, rfl⟩
  obtain ⟨B4, hB4⟩ : ∃ B, (hasB f 2 && hasB f 260) = B := ⟨_, rfl⟩
  obtain ⟨B5, hB5⟩ : ∃ B, (hasB f 128 && (!hasB f 4 || !(S.toList == [79, 98, 106, 101, 99, 116]))) = B := ⟨_, rfl⟩
  rw [hB1, hB2, hRA, hB4, hB5]
  have hB1H : Hid ((!nm N || (((S.toList == []) != (N.toList == [79, 98, 106, 101, 99, 116])) || (!(S.toList == []) && !nm S))) = B1) := hB1
  have hB2H : Hid ((!nf (.slice a1 n1 c1) || (!nf (.slice a2 n2 c2) || (!gb || (hasB f 256 != decide ((0 : Int) < n2))))) = B2) := hB2
  have hRAH : Hid (ascFrom none ps = RA) := hRA
  have hB4H : Hid ((hasB f 2 && hasB f 260) = B4) := hB4
  have hB5H : Hid ((hasB f 128 && (!hasB f 4 || !(S.toList == [79, 98, 106, 101, 99, 116]))) = B5) := hB5
  clear hB1 hB2 hRA hB4 hB5 q1 q2 q3 q4 q5 ht hps hh
  go_enter Tryz.func10, Tryz.ntmps10
  go_upto_region 1 with fail
  go_cut [27] (fun s27 wc => s27 = .bool B1 ∧ wc = w.alloc (.cells #[.string N, .string S, .slice a1 n1 c1, .int .i64 f, .slice a2 n2 c2, .slice a3 n3 c3, .slice a4 n4 c4] 39))
  case first =>
    rw [nil_beqM] at hB1H
    cases h1 : nm N <;> cases hse : S.toList.isEmpty <;> cases hon : (N.toList == [79, 98, 106, 101, 99, 116]) <;> cases h2 : nm S <;> rw [h1, hse, hon, h2] at hB1H
    all_goals (
      go_wp2_with (go_at_call 23; refine (nH.out _ _ (by assumption)).mono ?_; rintro e w2 ⟨rfl, rfl⟩)
      go_meet
      exact ⟨by rw [← hB1H.out]; rfl, rfl⟩)
  case rest =>
  obtain ⟨rfl, rfl⟩ := hcut
  cases B1 with
  | true =>
    go_wp2
    go_ret
    exact ⟨rfl, below_1 _ _⟩
  | false =>
  go_upto_region 3 with fail
  go_cut [53] (fun s53 wc => s53 = .bool B2 ∧ Hid (∃ n, wc = (w.alloc (.cells #[.string N, .string S, .slice a1 n1 c1, .int .i64 f, .slice a2 n2 c2, .slice a3 n3 c3, .slice a4 n4 c4] 39)).drewN n))
  case first =>
    cases h1 : nf (.slice a1 n1 c1) <;> rw [h1] at hB2H
    · go_quiet (first | (go_at_call 24; exact Calls.quiet_of (kH.out _ _ (by first | exact .inl rfl | exact .inr rfl))) | (go_at_call 25; exact Calls.quiet_of_same (gH.out _)) | (go_at_call 26; exact Calls.quiet_of_same (fH.out _ _)))
      go_wp2_with fail
      go_meet
      exact ⟨by rw [← hB2H.out]; rfl, _, rfl⟩
    cases h2 : nf (.slice a2 n2 c2) <;> rw [h2] at hB2H
    · go_quiet (first | (go_at_call 24; exact Calls.quiet_of (kH.out _ _ (by first | exact .inl rfl | exact .inr rfl))) | (go_at_call 25; exact Calls.quiet_of_same (gH.out _)) | (go_at_call 26; exact Calls.quiet_of_same (fH.out _ _)))
      go_wp2_with fail
      go_meet
      exact ⟨by rw [← hB2H.out]; rfl, _, rfl⟩
    cases gb with
    | false =>
      go_quiet (first | (go_at_call 24; exact Calls.quiet_of (kH.out _ _ (by first | exact .inl rfl | exact .inr rfl))) | (go_at_call 25; exact Calls.quiet_of_same (gH.out _)) | (go_at_call 26; exact Calls.quiet_of_same (fH.out _ _)))
      go_wp2_with fail
      go_meet
      exact ⟨by rw [← hB2H.out]; rfl, _, rfl⟩
    | true =>
      by_cases h0 : (0 : Int) < n2
      · rw [decide_eq_true h0] at hB2H
        have h0d : decide (0 < n2) = true := decide_eq_true (by omega)
        cases hb : hasB f 256 <;> rw [hb] at hB2H
        all_goals (
          go_quiet (first | (go_at_call 24; exact Calls.quiet_of (kH.out _ _ (by first | exact .inl rfl | exact .inr rfl))) | (go_at_call 25; exact Calls.quiet_of_same (gH.out _)) | (go_at_call 26; exact Calls.quiet_of_same (fH.out _ _)))
          go_wp2_with fail
          go_meet
          exact ⟨by rw [← hB2H.out]; first | rfl | simp [h0d], _, rfl⟩)
      · rw [decide_eq_false h0] at hB2H
        have h0d : decide (0 < n2) = false := decide_eq_false (by omega)
        cases hb : hasB f 256 <;> rw [hb] at hB2H
        all_goals (
          go_quiet (first | (go_at_call 24; exact Calls.quiet_of (kH.out _ _ (by first | exact .inl rfl | exact .inr rfl))) | (go_at_call 25; exact Calls.quiet_of_same (gH.out _)) | (go_at_call 26; exact Calls.quiet_of_same (fH.out _ _)))
          go_wp2_with fail
          go_meet
          exact ⟨by rw [← hB2H.out]; first | rfl | simp [h0d], _, rfl⟩)
  case rest =>
  obtain ⟨rfl, hwn⟩ := hcut
  have hB0 : Hid (Rec1 w wc [.string N, .string S, .slice a1 n1 c1, .int .i64 f, .slice a2 n2 c2, .slice a3 n3 c3, .slice a4 n4 c4]) := by obtain ⟨n, hn⟩ := hwn.out; rw [hn]; exact (Rec1.start rfl).drew n
  clear hwn kH nH gH
  cases B2 with
  | true =>
    go_wp2
    go_ret
    exact ⟨rfl, hB0.out.hb⟩
  | false =>
  go_wp2
  go_loopw [3] (fun i wr => ∃ m : Nat, 1 ≤ m ∧ (m ≤ n2 ∨ m = 1) ∧ i = .int .i64 m ∧ Hid (ascFrom (ahead ps m) (ps.drop m) = RA) ∧ Hid (Rec1 w wr [.string N, .string S, .slice a1 n1 c1, .int .i64 f, .slice a2 n2 c2, .slice a3 n3 c3, .slice a4 n4 c4])) (fun i _ => n2 - (intOf i).toNat)
  case atStart => exact ⟨1, Nat.le_refl _, .inr rfl, rfl, (asc_one ps).trans hRAH.out, hB0.out⟩
  case round =>
    obtain ⟨m, hm1, hm2, rfl, hz, hB⟩ := hrel
    have y4 := hB.out.cell 4 _ rfl
    by_cases hlt : m < n2
    · have hlt' : (m : Int) < (n2 : Int) := by omega
      have hltx : m < ps.length := by rw [hpsH.out]; exact hlt
      have hstep := asc_step ps m hltx
      rw [hz.out] at hstep
      obtain ⟨k, rfl⟩ : ∃ k, m = k + 1 := ⟨m - 1, by omega⟩
      rw [ahead_succ ps k (by omega)] at hstep
      obtain ⟨b, off, rfl, hc1⟩ := (htH.out wr hB.out.hb).strAt k (by omega)
      obtain ⟨b2, off2, hb2, hc2⟩ := (htH.out wr hB.out.hb).strAt (k + 1) hltx
      obtain ⟨rfl, rfl⟩ : b = b2 ∧ off = off2 := by simpa using hb2
      obtain ⟨q, hq⟩ : ∃ q, q = ps[k] := ⟨_, rfl⟩
      obtain ⟨s, hs⟩ : ∃ s, s = ps[k + 1] := ⟨_, rfl⟩
      rw [← hq] at hc1 hstep
      rw [← hs] at hc2 hstep
      have hstepH : Hid (RA = (Op.bytesLess q.toList s.toList && ascFrom (ahead ps (k + 1 + 1)) (ps.drop (k + 1 + 1)))) := hstep
      have hkn : (k : Int) < (n2 : Int) := by omega
      clear hstep hz hq hs hb2
      cases hl : Op.bytesLess q.toList s.toList with
      | false =>
        rw [hl] at hstepH
        go_wp2
        go_quiet (fail)
        go_wp2
        go_ret
        exact ⟨by rw [hstepH.out]; rfl, below_drewN hB.out.hb _⟩
      | true =>
        rw [hl] at hstepH
        go_wp2
        go_quiet (fail)
        go_wp2
        go_roundw
        case rel => exact ⟨k + 1 + 1, by omega, .inl (by omega), by go_num, (show _ = RA by rw [hstepH.out]; rfl), hB.out.drew _⟩
        case measure => simp [intOf]; omega
    · have hend := hz.out
      rw [List.drop_eq_nil_of_le (by rw [hpsH.out]; omega)] at hend
      have hRt : RA = true := hend.symm
      subst hRt
      have z1 := hB.out.cell 1 _ rfl
      have z3 := hB.out.cell 3 _ rfl
      clear hend hz htH
      go_upto_region 10 with fail
      clear y4
      go_cut [80] (fun s80 wc => s80 = .bool B4 ∧ wc = wr)
      case first =>
        cases h1 : hasB f 2 <;> cases h2 : hasB f 260 <;> rw [h1, h2] at hB4H
        all_goals (
          go_wp2_with (go_at_call 26; refine (fH.out _ _).mono ?_; rintro e w2 ⟨rfl, hw2⟩; subst w2)
          go_meet
          exact ⟨by rw [← hB4H.out]; rfl, rfl⟩)
      case rest =>
      obtain ⟨rfl, hwc⟩ := hcut
      subst wc
      cases B4 with
      | true =>
        go_wp2
        go_ret
        exact ⟨rfl, hB.out.hb⟩
      | false =>
      go_upto_region 12 with fail
      go_cut [94] (fun s94 wc => s94 = .bool B5 ∧ wc = wr)
      case first =>
        cases h1 : hasB f 128 <;> cases h2 : hasB f 4 <;> rw [h1, h2] at hB5H
        all_goals (
          by_cases hs : S.toList = [79, 98, 106, 101, 99, 116]
          · have hsb : (S.toList == [79, 98, 106, 101, 99, 116]) = true := by rw [hs]; rfl
            rw [hsb] at hB5H
            have hsn : (S.toList != [79, 98, 106, 101, 99, 116]) = false := by simp only [bne, hsb]; rfl
            clear hs
            go_wp2_with (go_at_call 26; refine (fH.out _ _).mono ?_; rintro e w2 ⟨rfl, hw2⟩; subst w2)
            go_meet
            exact ⟨by rw [← hB5H.out]; rfl, rfl⟩
          · have hsb : (S.toList == [79, 98, 106, 101, 99, 116]) = false := beq_false_of_ne hs
            rw [hsb] at hB5H
            have hsn : (S.toList != [79, 98, 106, 101, 99, 116]) = true := by simp only [bne, hsb]; rfl
            go_wp2_with (go_at_call 26; refine (fH.out _ _).mono ?_; rintro e w2 ⟨rfl, hw2⟩; subst w2)
            go_meet
            exact ⟨by rw [← hB5H.out]; rfl, rfl⟩)
      case rest =>
      obtain ⟨rfl, hwc⟩ := hcut
      subst wc
      cases B5 with
      | true =>
        go_wp2
        go_ret
        exact ⟨rfl, hB.out.hb⟩
      | false =>
      have r0 : Hid (Rec1 w wr [.string N, .string S, .slice a1 n1 c1, .int .i64 f, .slice a2 n2 c2, .slice a3 n3 c3, .slice a4 n4 c4]) := hB.out
      have x0 := r0.out.cell 0 _ rfl
      have x1 := r0.out.cell 1 _ rfl
      have x2 := r0.out.cell 2 _ rfl
      have x3 := r0.out.cell 3 _ rfl
      have x4 := r0.out.cell 4 _ rfl
      have x5 := r0.out.cell 5 _ rfl
      have x6 := r0.out.cell 6 _ rfl
      go_wp2_with fail
      clear z1 z3 x0 x1 x2 x3 x4 x5 x6
      refine (qq4.out wr r0.out.hb).mono ?_
      rintro e w1 ⟨rfl, hb1⟩
      have r1 : Hid (Rec1 w w1 [.string N, .string S, .slice a1 n1 c1, .int .i64 f, .slice a2 n2 c2, .slice a3 n3 c3, .slice a4 n4 c4]) := r0.out.call hb1
      clear hb1
      have x0 := r1.out.cell 0 _ rfl
      have x1 := r1.out.cell 1 _ rfl
      have x2 := r1.out.cell 2 _ rfl
      have x3 := r1.out.cell 3 _ rfl
      have x4 := r1.out.cell 4 _ rfl
      have x5 := r1.out.cell 5 _ rfl
      have x6 := r1.out.cell 6 _ rfl
      cases fs with
      | false =>
        go_wp2
        go_ret
        exact ⟨rfl, r1.out.hb⟩
      | true =>
        go_wp2_with fail
        clear x0 x1 x2 x3 x4 x5 x6
        refine (qq5.out w1 r1.out.hb).mono ?_
        rintro e w2 ⟨rfl, hb2⟩
        have r2 : Hid (Rec1 w w2 [.string N, .string S, .slice a1 n1 c1, .int .i64 f, .slice a2 n2 c2, .slice a3 n3 c3, .slice a4 n4 c4]) := r1.out.call hb2
        clear hb2
        go_wp2
        go_ret
        exact ⟨rfl, r2.out.hb⟩
end Go.Proofs.YthbledmeghkfpaaGreatDoor
