/- A class, by the program: its parts one by one. -/
import Derived.Test.YthbledmeghkfpaaGreatDoorClsA
namespace Go.Proofs.YthbledmeghkfpaaGreatDoor
set_option linter.unusedVariables false
open Go.ChangeShapes Go.WideShapes Go.ChangeAt Go.RowKit
theorem nil_beqC (l : List UInt8) : (l == []) = l.isEmpty := by cases l <;> rfl

set_option maxRecDepth 1000000 in
set_option maxHeartbeats 4000000 in
theorem superOk_walk (N S : ByteArray) (f : Int) (a1 : Option Addr) (n1 c1 : Nat) (a2 : Option Addr) (n2 c2 : Nat) (a3 : Option Addr) (n3 c3 : Nat) (a4 : Option Addr) (n4 c4 : Nat) (b1 : Bool) (w : World)
    (q1 : ∀ W, Below w.heap.size w W → Calls Tryz.prog 33 #[.string S] W fun e w' => e = .returned (.bool b1) ∧ Below W.heap.size W w') :
    Calls Tryz.prog 34 #[.agg #[.string N, .string S, .slice a1 n1 c1, .int .i64 f, .slice a2 n2 c2, .slice a3 n3 c3, .slice a4 n4 c4]] w fun e w' => e = .returned (.bool (if (N.toList == [79, 98, 106, 101, 99, 116]) = true then S.toList == [] else b1)) ∧ Below w.heap.size w w' := by
  have qq1 : Hid (∀ W, Below w.heap.size w W → Calls Tryz.prog 33 #[.string S] W fun e w' => e = .returned (.bool b1) ∧ Below W.heap.size W w') := q1
  clear q1
  obtain ⟨R, hR⟩ : ∃ R, (if (N.toList == [79, 98, 106, 101, 99, 116]) = true then S.toList == [] else b1) = R := ⟨_, rfl⟩
  rw [hR]
  have hRH : Hid ((if (N.toList == [79, 98, 106, 101, 99, 116]) = true then S.toList == [] else b1) = R) := hR
  clear hR
  cases hn : (N.toList == [79, 98, 106, 101, 99, 116])
  · go_enter Tryz.func34, Tryz.ntmps34
    go_wp2_with (go_at_call 33; refine (qq1.out _ (below_1 _ _)).mono ?_; rintro e w1 ⟨rfl, hb1⟩)
    go_ret
    exact ⟨by rw [← hRH.out, hn]; rfl, below_on2 (below_1 _ _) hb1⟩
  · go_enter Tryz.func34, Tryz.ntmps34
    go_wp2
    go_ret
    exact ⟨by rw [← hRH.out, hn, if_pos rfl, nil_beqC]; rfl, below_1 _ _⟩

set_option maxRecDepth 1000000 in
set_option maxHeartbeats 4000000 in
theorem interfacesOk_walk (N S : ByteArray) (f : Int) (a1 : Option Addr) (n1 c1 : Nat) (a2 : Option Addr) (n2 c2 : Nat) (a3 : Option Addr) (n3 c3 : Nat) (a4 : Option Addr) (n4 c4 : Nat) (b1 b2 : Bool) (w : World)
    (q1 : ∀ W, Below w.heap.size w W → Calls Tryz.prog 60 #[.slice a1 n1 c1, .func (.func 33) #[] #[]] W fun e w' => e = .returned (.bool b1) ∧ Below W.heap.size W w')
    (q2 : ∀ W, Below w.heap.size w W → Calls Tryz.prog 61 #[.slice a1 n1 c1, .func (.func 59) #[] #[]] W fun e w' => e = .returned (.bool b2) ∧ Below W.heap.size W w') :
    Calls Tryz.prog 36 #[.agg #[.string N, .string S, .slice a1 n1 c1, .int .i64 f, .slice a2 n2 c2, .slice a3 n3 c3, .slice a4 n4 c4]] w fun e w' => e = .returned (.bool (decide ((n1 : Int) ≤ 40) && (b1 && b2))) ∧ Below w.heap.size w w' := by
  have qq1 : Hid (∀ W, Below w.heap.size w W → Calls Tryz.prog 60 #[.slice a1 n1 c1, .func (.func 33) #[] #[]] W fun e w' => e = .returned (.bool b1) ∧ Below W.heap.size W w') := q1
  have qq2 : Hid (∀ W, Below w.heap.size w W → Calls Tryz.prog 61 #[.slice a1 n1 c1, .func (.func 59) #[] #[]] W fun e w' => e = .returned (.bool b2) ∧ Below W.heap.size W w') := q2
  clear q1 q2
  obtain ⟨R, hR⟩ : ∃ R, (decide ((n1 : Int) ≤ 40) && (b1 && b2)) = R := ⟨_, rfl⟩
  rw [hR]
  have hRH : Hid ((decide ((n1 : Int) ≤ 40) && (b1 && b2)) = R) := hR
  clear hR
  by_cases h40 : (n1 : Int) ≤ 40
  · rw [decide_eq_true h40] at hRH
    go_enter Tryz.func36, Tryz.ntmps36
    go_wp2_with fail
    obtain ⟨W0, hW0⟩ : ∃ W : World, W = w.alloc (.cells #[.string N, .string S, .slice a1 n1 c1, .int .i64 f, .slice a2 n2 c2, .slice a3 n3 c3, .slice a4 n4 c4] 39) := ⟨_, rfl⟩
    rw [← hW0]
    have r0 : Hid (Rec1 w W0 [.string N, .string S, .slice a1 n1 c1, .int .i64 f, .slice a2 n2 c2, .slice a3 n3 c3, .slice a4 n4 c4]) := Rec1.start hW0
    clear hW0
    refine (qq1.out _ r0.out.hb).mono ?_
    rintro e w1 ⟨rfl, hb1⟩
    have r1 : Hid (Rec1 w w1 [.string N, .string S, .slice a1 n1 c1, .int .i64 f, .slice a2 n2 c2, .slice a3 n3 c3, .slice a4 n4 c4]) := r0.out.call hb1
    clear hb1
    have y2 := r1.out.cell 2 _ rfl
    cases b1 with
    | false =>
      go_wp2
      go_ret
      exact ⟨by rw [← hRH.out]; rfl, r1.out.hb⟩
    | true =>
      go_wp2_with fail
      clear y2
      refine (qq2.out _ r1.out.hb).mono ?_
      rintro e w2 ⟨rfl, hb2⟩
      have r2 : Hid (Rec1 w w2 [.string N, .string S, .slice a1 n1 c1, .int .i64 f, .slice a2 n2 c2, .slice a3 n3 c3, .slice a4 n4 c4]) := r1.out.call hb2
      clear hb2
      go_wp2
      go_ret
      exact ⟨by rw [← hRH.out]; rfl, r2.out.hb⟩
  · rw [decide_eq_false h40] at hRH
    go_enter Tryz.func36, Tryz.ntmps36
    go_wp2
    go_ret
    exact ⟨by rw [← hRH.out]; rfl, below_1 _ _⟩

set_option maxRecDepth 1000000 in
set_option maxHeartbeats 4000000 in
theorem permitsOk_walk (N S : ByteArray) (f : Int) (a1 : Option Addr) (n1 c1 : Nat) (a2 : Option Addr) (n2 c2 : Nat) (a3 : Option Addr) (n3 c3 : Nat) (a4 : Option Addr) (n4 c4 : Nat) (b1 b2 : Bool) (w : World)
    (q1 : ∀ W, Below w.heap.size w W → Calls Tryz.prog 60 #[.slice a2 n2 c2, .func (.func 33) #[] #[]] W fun e w' => e = .returned (.bool b1) ∧ Below W.heap.size W w')
    (q2 : ∀ W, Below w.heap.size w W → Calls Tryz.prog 63 #[.slice a2 n2 c2] W fun e w' => e = .returned (.bool b2) ∧ Below W.heap.size W w') :
    Calls Tryz.prog 37 #[.agg #[.string N, .string S, .slice a1 n1 c1, .int .i64 f, .slice a2 n2 c2, .slice a3 n3 c3, .slice a4 n4 c4]] w fun e w' => e = .returned (.bool (!(decide ((40 : Int) < n2) || (hasB f 256 != decide ((0 : Int) < n2))) && (b1 && b2))) ∧ Below w.heap.size w w' := by
  have qq1 : Hid (∀ W, Below w.heap.size w W → Calls Tryz.prog 60 #[.slice a2 n2 c2, .func (.func 33) #[] #[]] W fun e w' => e = .returned (.bool b1) ∧ Below W.heap.size W w') := q1
  have qq2 : Hid (∀ W, Below w.heap.size w W → Calls Tryz.prog 63 #[.slice a2 n2 c2] W fun e w' => e = .returned (.bool b2) ∧ Below W.heap.size W w') := q2
  clear q1 q2
  obtain ⟨R, hR⟩ : ∃ R, (!(decide ((40 : Int) < n2) || (hasB f 256 != decide ((0 : Int) < n2))) && (b1 && b2)) = R := ⟨_, rfl⟩
  rw [hR]
  have hRH : Hid ((!(decide ((40 : Int) < n2) || (hasB f 256 != decide ((0 : Int) < n2))) && (b1 && b2)) = R) := hR
  clear hR
  have fH : Hid (∀ g W, Calls Tryz.prog 62 #[.int .i64 f, .int .i64 g] W fun e w' => e = .returned (.bool (hasB f g)) ∧ w' = W) := fun g W => hasFlag_calls f g W
  by_cases h40 : (40 : Int) < n2
  · rw [decide_eq_true h40] at hRH
    go_enter Tryz.func37, Tryz.ntmps37
    go_wp2
    go_quiet (first | (go_at_call 62; exact Calls.quiet_of_same (fH.out _ _)))
    go_wp2
    go_ret
    exact ⟨by rw [← hRH.out]; rfl, below_drewN2 (below_1 _ _) _⟩
  · rw [decide_eq_false h40] at hRH
    by_cases h0 : (0 : Int) < n2
    · rw [decide_eq_true h0] at hRH
      have h0d : decide (0 < n2) = true := decide_eq_true (by omega)
      cases hb : hasB f 256
      · rw [hb] at hRH
        go_enter Tryz.func37, Tryz.ntmps37
        go_wp2
        go_quiet (first | (go_at_call 62; exact Calls.quiet_of_same (fH.out _ _)))
        go_wp2
        go_ret
        exact ⟨by rw [← hRH.out]; rfl, below_drewN2 (below_1 _ _) _⟩
      · rw [hb] at hRH
        go_enter Tryz.func37, Tryz.ntmps37
        go_wp2
        go_quiet (first | (go_at_call 62; exact Calls.quiet_of_same (fH.out _ _)))
        go_wp2_with fail
        obtain ⟨W0, hW0⟩ : ∃ W : World, W = (w.alloc (.cells #[.string N, .string S, .slice a1 n1 c1, .int .i64 f, .slice a2 n2 c2, .slice a3 n3 c3, .slice a4 n4 c4] 39)).drewN nq := ⟨_, rfl⟩
        rw [← hW0]
        have r0 : Hid (Rec1 w W0 [.string N, .string S, .slice a1 n1 c1, .int .i64 f, .slice a2 n2 c2, .slice a3 n3 c3, .slice a4 n4 c4]) := by rw [hW0]; exact (Rec1.start rfl).call (below_drewN2 (Below.refl _ _) _)
        clear hW0
        refine (qq1.out _ r0.out.hb).mono ?_
        rintro e w1 ⟨rfl, hb1⟩
        have r1 : Hid (Rec1 w w1 [.string N, .string S, .slice a1 n1 c1, .int .i64 f, .slice a2 n2 c2, .slice a3 n3 c3, .slice a4 n4 c4]) := r0.out.call hb1
        clear hb1
        have y4 := r1.out.cell 4 _ rfl
        cases b1 with
        | false =>
          go_wp2
          go_ret
          exact ⟨by rw [← hRH.out]; rfl, r1.out.hb⟩
        | true =>
          go_wp2_with fail
          clear y4
          refine (qq2.out _ r1.out.hb).mono ?_
          rintro e w2 ⟨rfl, hb2⟩
          have r2 : Hid (Rec1 w w2 [.string N, .string S, .slice a1 n1 c1, .int .i64 f, .slice a2 n2 c2, .slice a3 n3 c3, .slice a4 n4 c4]) := r1.out.call hb2
          clear hb2
          go_wp2
          go_ret
          exact ⟨by rw [← hRH.out]; rfl, r2.out.hb⟩
    · rw [decide_eq_false h0] at hRH
      have h0d : decide (0 < n2) = false := decide_eq_false (by omega)
      cases hb : hasB f 256
      · rw [hb] at hRH
        go_enter Tryz.func37, Tryz.ntmps37
        go_wp2
        go_quiet (first | (go_at_call 62; exact Calls.quiet_of_same (fH.out _ _)))
        go_wp2_with fail
        obtain ⟨W0, hW0⟩ : ∃ W : World, W = (w.alloc (.cells #[.string N, .string S, .slice a1 n1 c1, .int .i64 f, .slice a2 n2 c2, .slice a3 n3 c3, .slice a4 n4 c4] 39)).drewN nq := ⟨_, rfl⟩
        rw [← hW0]
        have r0 : Hid (Rec1 w W0 [.string N, .string S, .slice a1 n1 c1, .int .i64 f, .slice a2 n2 c2, .slice a3 n3 c3, .slice a4 n4 c4]) := by rw [hW0]; exact (Rec1.start rfl).call (below_drewN2 (Below.refl _ _) _)
        clear hW0
        refine (qq1.out _ r0.out.hb).mono ?_
        rintro e w1 ⟨rfl, hb1⟩
        have r1 : Hid (Rec1 w w1 [.string N, .string S, .slice a1 n1 c1, .int .i64 f, .slice a2 n2 c2, .slice a3 n3 c3, .slice a4 n4 c4]) := r0.out.call hb1
        clear hb1
        have y4 := r1.out.cell 4 _ rfl
        cases b1 with
        | false =>
          go_wp2
          go_ret
          exact ⟨by rw [← hRH.out]; rfl, r1.out.hb⟩
        | true =>
          go_wp2_with fail
          clear y4
          refine (qq2.out _ r1.out.hb).mono ?_
          rintro e w2 ⟨rfl, hb2⟩
          have r2 : Hid (Rec1 w w2 [.string N, .string S, .slice a1 n1 c1, .int .i64 f, .slice a2 n2 c2, .slice a3 n3 c3, .slice a4 n4 c4]) := r1.out.call hb2
          clear hb2
          go_wp2
          go_ret
          exact ⟨by rw [← hRH.out]; rfl, r2.out.hb⟩
      · rw [hb] at hRH
        go_enter Tryz.func37, Tryz.ntmps37
        go_wp2
        go_quiet (first | (go_at_call 62; exact Calls.quiet_of_same (fH.out _ _)))
        go_wp2
        go_ret
        exact ⟨by rw [← hRH.out]; rfl, below_drewN2 (below_1 _ _) _⟩

set_option maxRecDepth 1000000 in
set_option maxHeartbeats 4000000 in
theorem membersOk_walk (N S : ByteArray) (f : Int) (a1 : Option Addr) (n1 c1 : Nat) (a2 : Option Addr) (n2 c2 : Nat) (a3 : Option Addr) (n3 c3 : Nat) (a4 : Option Addr) (n4 c4 : Nat) (b1 b2 b3 b4 : Bool) (w : World)
    (q1 : ∀ W, Below w.heap.size w W → Calls Tryz.prog 64 #[.slice a3 n3 c3, .func (.func 65) #[] #[]] W fun e w' => e = .returned (.bool b1) ∧ Below W.heap.size W w')
    (q2 : ∀ W, Below w.heap.size w W → Calls Tryz.prog 66 #[.slice a4 n4 c4, .func (.func 67) #[] #[]] W fun e w' => e = .returned (.bool b2) ∧ Below W.heap.size W w')
    (q3 : ∀ W, Below w.heap.size w W → Calls Tryz.prog 70 #[.slice a3 n3 c3, .func (.func 68) #[] #[]] W fun e w' => e = .returned (.bool b3) ∧ Below W.heap.size W w')
    (q4 : ∀ W, Below w.heap.size w W → Calls Tryz.prog 71 #[.slice a4 n4 c4, .func (.func 69) #[] #[]] W fun e w' => e = .returned (.bool b4) ∧ Below W.heap.size W w') :
    Calls Tryz.prog 38 #[.agg #[.string N, .string S, .slice a1 n1 c1, .int .i64 f, .slice a2 n2 c2, .slice a3 n3 c3, .slice a4 n4 c4]] w fun e w' => e = .returned (.bool (!(decide ((40 : Int) < n3) || decide ((40 : Int) < n4)) && (b1 && (b2 && (b3 && b4))))) ∧ Below w.heap.size w w' := by
  have qq1 : Hid (∀ W, Below w.heap.size w W → Calls Tryz.prog 64 #[.slice a3 n3 c3, .func (.func 65) #[] #[]] W fun e w' => e = .returned (.bool b1) ∧ Below W.heap.size W w') := q1
  have qq2 : Hid (∀ W, Below w.heap.size w W → Calls Tryz.prog 66 #[.slice a4 n4 c4, .func (.func 67) #[] #[]] W fun e w' => e = .returned (.bool b2) ∧ Below W.heap.size W w') := q2
  have qq3 : Hid (∀ W, Below w.heap.size w W → Calls Tryz.prog 70 #[.slice a3 n3 c3, .func (.func 68) #[] #[]] W fun e w' => e = .returned (.bool b3) ∧ Below W.heap.size W w') := q3
  have qq4 : Hid (∀ W, Below w.heap.size w W → Calls Tryz.prog 71 #[.slice a4 n4 c4, .func (.func 69) #[] #[]] W fun e w' => e = .returned (.bool b4) ∧ Below W.heap.size W w') := q4
  clear q1 q2 q3 q4
  obtain ⟨R, hR⟩ : ∃ R, (!(decide ((40 : Int) < n3) || decide ((40 : Int) < n4)) && (b1 && (b2 && (b3 && b4)))) = R := ⟨_, rfl⟩
  rw [hR]
  have hRH : Hid ((!(decide ((40 : Int) < n3) || decide ((40 : Int) < n4)) && (b1 && (b2 && (b3 && b4)))) = R) := hR
  clear hR
  by_cases h40 : (40 : Int) < n3
  · rw [decide_eq_true h40] at hRH
    go_enter Tryz.func38, Tryz.ntmps38
    go_wp2
    go_ret
    exact ⟨by rw [← hRH.out]; rfl, below_1 _ _⟩
  rw [decide_eq_false h40] at hRH
  by_cases g40 : (40 : Int) < n4
  · rw [decide_eq_true g40] at hRH
    go_enter Tryz.func38, Tryz.ntmps38
    go_wp2
    go_ret
    exact ⟨by rw [← hRH.out]; rfl, below_1 _ _⟩
  rw [decide_eq_false g40] at hRH
  go_enter Tryz.func38, Tryz.ntmps38
  go_wp2_with fail
  obtain ⟨W0, hW0⟩ : ∃ W : World, W = w.alloc (.cells #[.string N, .string S, .slice a1 n1 c1, .int .i64 f, .slice a2 n2 c2, .slice a3 n3 c3, .slice a4 n4 c4] 39) := ⟨_, rfl⟩
  rw [← hW0]
  have r0 : Hid (Rec1 w W0 [.string N, .string S, .slice a1 n1 c1, .int .i64 f, .slice a2 n2 c2, .slice a3 n3 c3, .slice a4 n4 c4]) := Rec1.start hW0
  clear hW0
  refine (qq1.out _ r0.out.hb).mono ?_
  rintro e w1 ⟨rfl, hb1⟩
  have r1 : Hid (Rec1 w w1 [.string N, .string S, .slice a1 n1 c1, .int .i64 f, .slice a2 n2 c2, .slice a3 n3 c3, .slice a4 n4 c4]) := r0.out.call hb1
  clear hb1
  have y5 := r1.out.cell 5 _ rfl
  have y6 := r1.out.cell 6 _ rfl
  cases b1 with
  | false =>
    go_wp2
    go_ret
    exact ⟨by rw [← hRH.out]; rfl, r1.out.hb⟩
  | true =>
    go_wp2_with fail
    clear y5 y6
    refine (qq2.out _ r1.out.hb).mono ?_
    rintro e w2 ⟨rfl, hb2⟩
    have r2 : Hid (Rec1 w w2 [.string N, .string S, .slice a1 n1 c1, .int .i64 f, .slice a2 n2 c2, .slice a3 n3 c3, .slice a4 n4 c4]) := r1.out.call hb2
    clear hb2
    have y5 := r2.out.cell 5 _ rfl
    have y6 := r2.out.cell 6 _ rfl
    cases b2 with
    | false =>
      go_wp2
      go_ret
      exact ⟨by rw [← hRH.out]; rfl, r2.out.hb⟩
    | true =>
      go_wp2_with fail
      clear y5 y6
      refine (qq3.out _ r2.out.hb).mono ?_
      rintro e w3 ⟨rfl, hb3⟩
      have r3 : Hid (Rec1 w w3 [.string N, .string S, .slice a1 n1 c1, .int .i64 f, .slice a2 n2 c2, .slice a3 n3 c3, .slice a4 n4 c4]) := r2.out.call hb3
      clear hb3
      have y5 := r3.out.cell 5 _ rfl
      have y6 := r3.out.cell 6 _ rfl
      cases b3 with
      | false =>
        go_wp2
        go_ret
        exact ⟨by rw [← hRH.out]; rfl, r3.out.hb⟩
      | true =>
        go_wp2_with fail
        clear y5 y6
        refine (qq4.out _ r3.out.hb).mono ?_
        rintro e w4 ⟨rfl, hb4⟩
        have r4 : Hid (Rec1 w w4 [.string N, .string S, .slice a1 n1 c1, .int .i64 f, .slice a2 n2 c2, .slice a3 n3 c3, .slice a4 n4 c4]) := r3.out.call hb4
        clear hb4
        go_wp2
        go_ret
        exact ⟨by rw [← hRH.out]; rfl, r4.out.hb⟩

set_option maxRecDepth 1000000 in
set_option maxHeartbeats 4000000 in
theorem flagsAgree_walk (N S : ByteArray) (f : Int) (a1 : Option Addr) (n1 c1 : Nat) (a2 : Option Addr) (n2 c2 : Nat) (a3 : Option Addr) (n3 c3 : Nat) (a4 : Option Addr) (n4 c4 : Nat) (b1 : Bool) (w : World)
    (q1 : ∀ W, Below w.heap.size w W → Calls Tryz.prog 66 #[.slice a4 n4 c4, .func (.func 72) #[] #[]] W fun e w' => e = .returned (.bool b1) ∧ Below W.heap.size W w') :
    Calls Tryz.prog 39 #[.agg #[.string N, .string S, .slice a1 n1 c1, .int .i64 f, .slice a2 n2 c2, .slice a3 n3 c3, .slice a4 n4 c4]] w fun e w' => e = .returned (.bool (!(hasB f 2 && (hasB f 4 || hasB f 256)) && (hasB f 4 || b1))) ∧ Below w.heap.size w w' := by
  have qq1 : Hid (∀ W, Below w.heap.size w W → Calls Tryz.prog 66 #[.slice a4 n4 c4, .func (.func 72) #[] #[]] W fun e w' => e = .returned (.bool b1) ∧ Below W.heap.size W w') := q1
  clear q1
  obtain ⟨R, hR⟩ : ∃ R, (!(hasB f 2 && (hasB f 4 || hasB f 256)) && (hasB f 4 || b1)) = R := ⟨_, rfl⟩
  rw [hR]
  have hRH : Hid ((!(hasB f 2 && (hasB f 4 || hasB f 256)) && (hasB f 4 || b1)) = R) := hR
  clear hR
  have fH : Hid (∀ g W, Calls Tryz.prog 62 #[.int .i64 f, .int .i64 g] W fun e w' => e = .returned (.bool (hasB f g)) ∧ w' = W) := fun g W => hasFlag_calls f g W
  cases h2 : hasB f 2 <;> cases h4 : hasB f 4 <;> cases h6 : hasB f 256 <;> rw [h2, h4, h6] at hRH
  all_goals (
    go_enter Tryz.func39, Tryz.ntmps39
    go_wp2_with (first | (go_at_call 62; refine (fH.out _ _).mono ?_; rintro e w2 ⟨rfl, rfl⟩) | (go_at_call 66; refine (qq1.out _ (below_1 _ _)).mono ?_; rintro e w1 ⟨rfl, hb1⟩))
    go_ret
    exact ⟨by rw [← hRH.out]; rfl, by first | exact below_1 _ _ | exact below_on2 (below_1 _ _) (by assumption)⟩)

set_option maxRecDepth 1000000 in
set_option maxHeartbeats 4000000 in
theorem interfaceOk_walk (N S : ByteArray) (f : Int) (a1 : Option Addr) (n1 c1 : Nat) (a2 : Option Addr) (n2 c2 : Nat) (a3 : Option Addr) (n3 c3 : Nat) (a4 : Option Addr) (n4 c4 : Nat) (b1 b2 : Bool) (w : World)
    (q1 : ∀ W, Below w.heap.size w W → Calls Tryz.prog 64 #[.slice a3 n3 c3, .func (.func 73) #[] #[]] W fun e w' => e = .returned (.bool b1) ∧ Below W.heap.size W w')
    (q2 : ∀ W, Below w.heap.size w W → Calls Tryz.prog 66 #[.slice a4 n4 c4, .func (.func 74) #[] #[]] W fun e w' => e = .returned (.bool b2) ∧ Below W.heap.size W w') :
    Calls Tryz.prog 40 #[.agg #[.string N, .string S, .slice a1 n1 c1, .int .i64 f, .slice a2 n2 c2, .slice a3 n3 c3, .slice a4 n4 c4]] w fun e w' => e = .returned (.bool (!hasB f 128 || (hasB f 4 && ((S.toList == [79, 98, 106, 101, 99, 116]) && (b1 && b2))))) ∧ Below w.heap.size w w' := by
  have qq1 : Hid (∀ W, Below w.heap.size w W → Calls Tryz.prog 64 #[.slice a3 n3 c3, .func (.func 73) #[] #[]] W fun e w' => e = .returned (.bool b1) ∧ Below W.heap.size W w') := q1
  have qq2 : Hid (∀ W, Below w.heap.size w W → Calls Tryz.prog 66 #[.slice a4 n4 c4, .func (.func 74) #[] #[]] W fun e w' => e = .returned (.bool b2) ∧ Below W.heap.size W w') := q2
  clear q1 q2
  obtain ⟨R, hR⟩ : ∃ R, (!hasB f 128 || (hasB f 4 && ((S.toList == [79, 98, 106, 101, 99, 116]) && (b1 && b2)))) = R := ⟨_, rfl⟩
  rw [hR]
  have hRH : Hid ((!hasB f 128 || (hasB f 4 && ((S.toList == [79, 98, 106, 101, 99, 116]) && (b1 && b2)))) = R) := hR
  clear hR
  have fH : Hid (∀ g W, Calls Tryz.prog 62 #[.int .i64 f, .int .i64 g] W fun e w' => e = .returned (.bool (hasB f g)) ∧ w' = W) := fun g W => hasFlag_calls f g W
  cases h8 : hasB f 128 <;> rw [h8] at hRH
  · go_enter Tryz.func40, Tryz.ntmps40
    go_wp2_with (go_at_call 62; refine (fH.out _ _).mono ?_; rintro e w2 ⟨rfl, rfl⟩)
    go_ret
    exact ⟨by rw [← hRH.out]; rfl, below_1 _ _⟩
  cases h4 : hasB f 4 <;> rw [h4] at hRH
  · go_enter Tryz.func40, Tryz.ntmps40
    go_wp2_with (go_at_call 62; refine (fH.out _ _).mono ?_; rintro e w2 ⟨rfl, rfl⟩)
    go_ret
    exact ⟨by rw [← hRH.out]; rfl, below_1 _ _⟩
  cases hs : (S.toList == [79, 98, 106, 101, 99, 116]) <;> rw [hs] at hRH
  · go_enter Tryz.func40, Tryz.ntmps40
    go_wp2_with (go_at_call 62; refine (fH.out _ _).mono ?_; rintro e w2 ⟨rfl, rfl⟩)
    go_ret
    exact ⟨by rw [← hRH.out]; rfl, below_1 _ _⟩
  go_enter Tryz.func40, Tryz.ntmps40
  go_wp2_with (go_at_call 62; refine (fH.out _ _).mono ?_; rintro e w2 ⟨rfl, rfl⟩)
  obtain ⟨W0, hW0⟩ : ∃ W : World, W = w.alloc (.cells #[.string N, .string S, .slice a1 n1 c1, .int .i64 f, .slice a2 n2 c2, .slice a3 n3 c3, .slice a4 n4 c4] 39) := ⟨_, rfl⟩
  rw [← hW0]
  have r0 : Hid (Rec1 w W0 [.string N, .string S, .slice a1 n1 c1, .int .i64 f, .slice a2 n2 c2, .slice a3 n3 c3, .slice a4 n4 c4]) := Rec1.start hW0
  clear hW0
  refine (qq1.out _ r0.out.hb).mono ?_
  rintro e w1 ⟨rfl, hb1⟩
  have r1 : Hid (Rec1 w w1 [.string N, .string S, .slice a1 n1 c1, .int .i64 f, .slice a2 n2 c2, .slice a3 n3 c3, .slice a4 n4 c4]) := r0.out.call hb1
  clear hb1
  have y6 := r1.out.cell 6 _ rfl
  cases b1 with
  | false =>
    go_wp2
    go_ret
    exact ⟨by rw [← hRH.out]; rfl, r1.out.hb⟩
  | true =>
    go_wp2_with fail
    clear y6
    refine (qq2.out _ r1.out.hb).mono ?_
    rintro e w2 ⟨rfl, hb2⟩
    have r2 : Hid (Rec1 w w2 [.string N, .string S, .slice a1 n1 c1, .int .i64 f, .slice a2 n2 c2, .slice a3 n3 c3, .slice a4 n4 c4]) := r1.out.call hb2
    clear hb2
    go_wp2
    go_ret
    exact ⟨by rw [← hRH.out]; rfl, r2.out.hb⟩

set_option maxRecDepth 1000000 in
set_option maxHeartbeats 4000000 in
theorem classWalk (N S : ByteArray) (f : Int) (a1 : Option Addr) (n1 c1 : Nat) (a2 : Option Addr) (n2 c2 : Nat) (a3 : Option Addr) (n3 c3 : Nat) (a4 : Option Addr) (n4 c4 : Nat) (b1 b2 b3 b4 b5 b6 b7 b8 : Bool) (w : World)
    (q1 : ∀ W, Below w.heap.size w W → Calls Tryz.prog 33 #[.string N] W fun e w' => e = .returned (.bool b1) ∧ Below W.heap.size W w')
    (q2 : ∀ W, Below w.heap.size w W → Calls Tryz.prog 34 #[.agg #[.string N, .string S, .slice a1 n1 c1, .int .i64 f, .slice a2 n2 c2, .slice a3 n3 c3, .slice a4 n4 c4]] W fun e w' => e = .returned (.bool b2) ∧ Below W.heap.size W w')
    (q3 : ∀ W, Below w.heap.size w W → Calls Tryz.prog 35 #[.int .i64 f, .int .i64 390] W fun e w' => e = .returned (.bool b3) ∧ Below W.heap.size W w')
    (q4 : ∀ W, Below w.heap.size w W → Calls Tryz.prog 36 #[.agg #[.string N, .string S, .slice a1 n1 c1, .int .i64 f, .slice a2 n2 c2, .slice a3 n3 c3, .slice a4 n4 c4]] W fun e w' => e = .returned (.bool b4) ∧ Below W.heap.size W w')
    (q5 : ∀ W, Below w.heap.size w W → Calls Tryz.prog 37 #[.agg #[.string N, .string S, .slice a1 n1 c1, .int .i64 f, .slice a2 n2 c2, .slice a3 n3 c3, .slice a4 n4 c4]] W fun e w' => e = .returned (.bool b5) ∧ Below W.heap.size W w')
    (q6 : ∀ W, Below w.heap.size w W → Calls Tryz.prog 38 #[.agg #[.string N, .string S, .slice a1 n1 c1, .int .i64 f, .slice a2 n2 c2, .slice a3 n3 c3, .slice a4 n4 c4]] W fun e w' => e = .returned (.bool b6) ∧ Below W.heap.size W w')
    (q7 : ∀ W, Below w.heap.size w W → Calls Tryz.prog 39 #[.agg #[.string N, .string S, .slice a1 n1 c1, .int .i64 f, .slice a2 n2 c2, .slice a3 n3 c3, .slice a4 n4 c4]] W fun e w' => e = .returned (.bool b7) ∧ Below W.heap.size W w')
    (q8 : ∀ W, Below w.heap.size w W → Calls Tryz.prog 40 #[.agg #[.string N, .string S, .slice a1 n1 c1, .int .i64 f, .slice a2 n2 c2, .slice a3 n3 c3, .slice a4 n4 c4]] W fun e w' => e = .returned (.bool b8) ∧ Below W.heap.size W w') :
    Calls Tryz.prog 15 #[.agg #[.string N, .string S, .slice a1 n1 c1, .int .i64 f, .slice a2 n2 c2, .slice a3 n3 c3, .slice a4 n4 c4]] w fun e w' => e = .returned (.bool (b1 && (b2 && (b3 && (b4 && (b5 && (b6 && (b7 && b8)))))))) ∧ Below w.heap.size w w' := by
  have qq1 : Hid (∀ W, Below w.heap.size w W → Calls Tryz.prog 33 #[.string N] W fun e w' => e = .returned (.bool b1) ∧ Below W.heap.size W w') := q1
  have qq2 : Hid (∀ W, Below w.heap.size w W → Calls Tryz.prog 34 #[.agg #[.string N, .string S, .slice a1 n1 c1, .int .i64 f, .slice a2 n2 c2, .slice a3 n3 c3, .slice a4 n4 c4]] W fun e w' => e = .returned (.bool b2) ∧ Below W.heap.size W w') := q2
  have qq3 : Hid (∀ W, Below w.heap.size w W → Calls Tryz.prog 35 #[.int .i64 f, .int .i64 390] W fun e w' => e = .returned (.bool b3) ∧ Below W.heap.size W w') := q3
  have qq4 : Hid (∀ W, Below w.heap.size w W → Calls Tryz.prog 36 #[.agg #[.string N, .string S, .slice a1 n1 c1, .int .i64 f, .slice a2 n2 c2, .slice a3 n3 c3, .slice a4 n4 c4]] W fun e w' => e = .returned (.bool b4) ∧ Below W.heap.size W w') := q4
  have qq5 : Hid (∀ W, Below w.heap.size w W → Calls Tryz.prog 37 #[.agg #[.string N, .string S, .slice a1 n1 c1, .int .i64 f, .slice a2 n2 c2, .slice a3 n3 c3, .slice a4 n4 c4]] W fun e w' => e = .returned (.bool b5) ∧ Below W.heap.size W w') := q5
  have qq6 : Hid (∀ W, Below w.heap.size w W → Calls Tryz.prog 38 #[.agg #[.string N, .string S, .slice a1 n1 c1, .int .i64 f, .slice a2 n2 c2, .slice a3 n3 c3, .slice a4 n4 c4]] W fun e w' => e = .returned (.bool b6) ∧ Below W.heap.size W w') := q6
  have qq7 : Hid (∀ W, Below w.heap.size w W → Calls Tryz.prog 39 #[.agg #[.string N, .string S, .slice a1 n1 c1, .int .i64 f, .slice a2 n2 c2, .slice a3 n3 c3, .slice a4 n4 c4]] W fun e w' => e = .returned (.bool b7) ∧ Below W.heap.size W w') := q7
  have qq8 : Hid (∀ W, Below w.heap.size w W → Calls Tryz.prog 40 #[.agg #[.string N, .string S, .slice a1 n1 c1, .int .i64 f, .slice a2 n2 c2, .slice a3 n3 c3, .slice a4 n4 c4]] W fun e w' => e = .returned (.bool b8) ∧ Below W.heap.size W w') := q8
  clear q1 q2 q3 q4 q5 q6 q7 q8
  obtain ⟨R, hR⟩ : ∃ R, (b1 && (b2 && (b3 && (b4 && (b5 && (b6 && (b7 && b8))))))) = R := ⟨_, rfl⟩
  rw [hR]
  have hRH : Hid ((b1 && (b2 && (b3 && (b4 && (b5 && (b6 && (b7 && b8))))))) = R) := hR
  clear hR
  go_enter Tryz.func15, Tryz.ntmps15
  go_wp2_with fail
  obtain ⟨W0, hW0⟩ : ∃ W : World, W = w.alloc (.cells #[.string N, .string S, .slice a1 n1 c1, .int .i64 f, .slice a2 n2 c2, .slice a3 n3 c3, .slice a4 n4 c4] 39) := ⟨_, rfl⟩
  rw [← hW0]
  have r0 : Hid (Rec1 w W0 [.string N, .string S, .slice a1 n1 c1, .int .i64 f, .slice a2 n2 c2, .slice a3 n3 c3, .slice a4 n4 c4]) := Rec1.start hW0
  clear hW0
  refine (qq1.out _ r0.out.hb).mono ?_
  rintro e w1 ⟨rfl, hb1⟩
  have r1 : Hid (Rec1 w w1 [.string N, .string S, .slice a1 n1 c1, .int .i64 f, .slice a2 n2 c2, .slice a3 n3 c3, .slice a4 n4 c4]) := r0.out.call hb1
  clear hb1
  have y0 := r1.out.cell 0 _ rfl
  have y1 := r1.out.cell 1 _ rfl
  have y2 := r1.out.cell 2 _ rfl
  have y3 := r1.out.cell 3 _ rfl
  have y4 := r1.out.cell 4 _ rfl
  have y5 := r1.out.cell 5 _ rfl
  have y6 := r1.out.cell 6 _ rfl
  cases b1 with
  | false =>
    go_wp2
    go_ret
    exact ⟨by rw [← hRH.out]; rfl, r1.out.hb⟩
  | true =>
    go_wp2_with fail
    clear y0 y1 y2 y3 y4 y5 y6
    refine (qq2.out _ r1.out.hb).mono ?_
    rintro e w2 ⟨rfl, hb2⟩
    have r2 : Hid (Rec1 w w2 [.string N, .string S, .slice a1 n1 c1, .int .i64 f, .slice a2 n2 c2, .slice a3 n3 c3, .slice a4 n4 c4]) := r1.out.call hb2
    clear hb2
    have y0 := r2.out.cell 0 _ rfl
    have y1 := r2.out.cell 1 _ rfl
    have y2 := r2.out.cell 2 _ rfl
    have y3 := r2.out.cell 3 _ rfl
    have y4 := r2.out.cell 4 _ rfl
    have y5 := r2.out.cell 5 _ rfl
    have y6 := r2.out.cell 6 _ rfl
    cases b2 with
    | false =>
      go_wp2
      go_ret
      exact ⟨by rw [← hRH.out]; rfl, r2.out.hb⟩
    | true =>
      go_wp2_with fail
      clear y0 y1 y2 y3 y4 y5 y6
      refine (qq3.out _ r2.out.hb).mono ?_
      rintro e w3 ⟨rfl, hb3⟩
      have r3 : Hid (Rec1 w w3 [.string N, .string S, .slice a1 n1 c1, .int .i64 f, .slice a2 n2 c2, .slice a3 n3 c3, .slice a4 n4 c4]) := r2.out.call hb3
      clear hb3
      have y0 := r3.out.cell 0 _ rfl
      have y1 := r3.out.cell 1 _ rfl
      have y2 := r3.out.cell 2 _ rfl
      have y3 := r3.out.cell 3 _ rfl
      have y4 := r3.out.cell 4 _ rfl
      have y5 := r3.out.cell 5 _ rfl
      have y6 := r3.out.cell 6 _ rfl
      cases b3 with
      | false =>
        go_wp2
        go_ret
        exact ⟨by rw [← hRH.out]; rfl, r3.out.hb⟩
      | true =>
        go_wp2_with fail
        clear y0 y1 y2 y3 y4 y5 y6
        refine (qq4.out _ r3.out.hb).mono ?_
        rintro e w4 ⟨rfl, hb4⟩
        have r4 : Hid (Rec1 w w4 [.string N, .string S, .slice a1 n1 c1, .int .i64 f, .slice a2 n2 c2, .slice a3 n3 c3, .slice a4 n4 c4]) := r3.out.call hb4
        clear hb4
        have y0 := r4.out.cell 0 _ rfl
        have y1 := r4.out.cell 1 _ rfl
        have y2 := r4.out.cell 2 _ rfl
        have y3 := r4.out.cell 3 _ rfl
        have y4 := r4.out.cell 4 _ rfl
        have y5 := r4.out.cell 5 _ rfl
        have y6 := r4.out.cell 6 _ rfl
        cases b4 with
        | false =>
          go_wp2
          go_ret
          exact ⟨by rw [← hRH.out]; rfl, r4.out.hb⟩
        | true =>
          go_wp2_with fail
          clear y0 y1 y2 y3 y4 y5 y6
          refine (qq5.out _ r4.out.hb).mono ?_
          rintro e w5 ⟨rfl, hb5⟩
          have r5 : Hid (Rec1 w w5 [.string N, .string S, .slice a1 n1 c1, .int .i64 f, .slice a2 n2 c2, .slice a3 n3 c3, .slice a4 n4 c4]) := r4.out.call hb5
          clear hb5
          have y0 := r5.out.cell 0 _ rfl
          have y1 := r5.out.cell 1 _ rfl
          have y2 := r5.out.cell 2 _ rfl
          have y3 := r5.out.cell 3 _ rfl
          have y4 := r5.out.cell 4 _ rfl
          have y5 := r5.out.cell 5 _ rfl
          have y6 := r5.out.cell 6 _ rfl
          cases b5 with
          | false =>
            go_wp2
            go_ret
            exact ⟨by rw [← hRH.out]; rfl, r5.out.hb⟩
          | true =>
            go_wp2_with fail
            clear y0 y1 y2 y3 y4 y5 y6
            refine (qq6.out _ r5.out.hb).mono ?_
            rintro e w6 ⟨rfl, hb6⟩
            have r6 : Hid (Rec1 w w6 [.string N, .string S, .slice a1 n1 c1, .int .i64 f, .slice a2 n2 c2, .slice a3 n3 c3, .slice a4 n4 c4]) := r5.out.call hb6
            clear hb6
            have y0 := r6.out.cell 0 _ rfl
            have y1 := r6.out.cell 1 _ rfl
            have y2 := r6.out.cell 2 _ rfl
            have y3 := r6.out.cell 3 _ rfl
            have y4 := r6.out.cell 4 _ rfl
            have y5 := r6.out.cell 5 _ rfl
            have y6 := r6.out.cell 6 _ rfl
            cases b6 with
            | false =>
              go_wp2
              go_ret
              exact ⟨by rw [← hRH.out]; rfl, r6.out.hb⟩
            | true =>
              go_wp2_with fail
              clear y0 y1 y2 y3 y4 y5 y6
              refine (qq7.out _ r6.out.hb).mono ?_
              rintro e w7 ⟨rfl, hb7⟩
              have r7 : Hid (Rec1 w w7 [.string N, .string S, .slice a1 n1 c1, .int .i64 f, .slice a2 n2 c2, .slice a3 n3 c3, .slice a4 n4 c4]) := r6.out.call hb7
              clear hb7
              have y0 := r7.out.cell 0 _ rfl
              have y1 := r7.out.cell 1 _ rfl
              have y2 := r7.out.cell 2 _ rfl
              have y3 := r7.out.cell 3 _ rfl
              have y4 := r7.out.cell 4 _ rfl
              have y5 := r7.out.cell 5 _ rfl
              have y6 := r7.out.cell 6 _ rfl
              cases b7 with
              | false =>
                go_wp2
                go_ret
                exact ⟨by rw [← hRH.out]; rfl, r7.out.hb⟩
              | true =>
                go_wp2_with fail
                clear y0 y1 y2 y3 y4 y5 y6
                refine (qq8.out _ r7.out.hb).mono ?_
                rintro e w8 ⟨rfl, hb8⟩
                have r8 : Hid (Rec1 w w8 [.string N, .string S, .slice a1 n1 c1, .int .i64 f, .slice a2 n2 c2, .slice a3 n3 c3, .slice a4 n4 c4]) := r7.out.call hb8
                clear hb8
                go_wp2
                go_ret
                exact ⟨by rw [← hRH.out]; rfl, r8.out.hb⟩
end Go.Proofs.YthbledmeghkfpaaGreatDoor
