/- A method, by the specification: all but its code. -/
import Derived.Test.YthbledmeghkfpaaGreatDoorMethA
namespace Go.Proofs.YthbledmeghkfpaaGreatDoor
set_option linter.unusedVariables false
open Go.ChangeShapes Go.WideShapes Go.ChangeAt Go.RowKit

def methT (N S : ByteArray) (f k l : Int) (n1 n2 n3 n4 : Nat) (b1 b2 b3 b4 b5 cs : Bool) : Bool :=
  if (b1 && (b2 && (b3 && (b4 && b5)))) = false then false
  else if ((N.toList == [110, 101, 119]) && (((mkS (sigRes S.data.toList)).toList != [86]) || hasB f 103)) = true then false
  else if ((N.toList == [115, 116, 97, 114, 116]) && ((S.toList != [40, 41, 86]) || (!hasB f 1 || hasB f 64))) = true then false
  else if (hasB f 4 && hasB f 107) = true then false
  else if hasB f 68 = true then sumZ n1 n2 n3 n4 && k == 0 && l == 0
  else decide (placesB S f ≤ l) && cs

set_option maxRecDepth 1000000 in
set_option maxHeartbeats 8000000 in
theorem specMethodWalk (N S : ByteArray) (f k l : Int) (a1 : Option Addr) (n1 c1 : Nat) (a2 : Option Addr) (n2 c2 : Nat) (a3 : Option Addr) (n3 c3 : Nat) (a4 : Option Addr) (n4 c4 : Nat) (b1 b2 b3 b4 b5 cs : Bool) (w : World) (h1 : n1 ≤ 1048576) (h2 : n2 ≤ 1048576) (h3 : n3 ≤ 1048576) (h4 : n4 ≤ 1048576) (hs : S.size ≤ 1048576)
    (qq1 : ∀ W, Below w.heap.size w W → Calls Tryz.prog 23 #[.string N] W fun e w' => e = .returned (.bool b1) ∧ Below W.heap.size W w')
    (qq2 : ∀ W, Below w.heap.size w W → Calls Tryz.prog 82 #[.string S] W fun e w' => e = .returned (.bool b2) ∧ Below W.heap.size W w')
    (qq3 : ∀ W, Below w.heap.size w W → Calls Tryz.prog 25 #[.int .i64 f, .int .i64 111] W fun e w' => e = .returned (.bool b3) ∧ Below W.heap.size W w')
    (qq4 : ∀ W, Below w.heap.size w W → Calls Tryz.prog 83 #[.int .i64 k, .int .i64 0, .int .i64 40] W fun e w' => e = .returned (.bool b4) ∧ Below W.heap.size W w')
    (qq5 : ∀ W, Below w.heap.size w W → Calls Tryz.prog 83 #[.int .i64 l, .int .i64 0, .int .i64 40] W fun e w' => e = .returned (.bool b5) ∧ Below W.heap.size W w')
    (qq6 : ∀ W, Below w.heap.size w W → Calls Tryz.prog 86 #[methV N S f k l a1 n1 c1 a2 n2 c2 a3 n3 c3 a4 n4 c4] W fun e w' => e = .returned (.bool cs) ∧ Below W.heap.size W w') :
    Calls Tryz.prog 49 #[methV N S f k l a1 n1 c1 a2 n2 c2 a3 n3 c3 a4 n4 c4] w fun e w' => e = .returned (.bool (methT N S f k l n1 n2 n3 n4 b1 b2 b3 b4 b5 cs)) ∧ Below w.heap.size w w' := by
  have qq1H : Hid (∀ W, Below w.heap.size w W → Calls Tryz.prog 23 #[.string N] W fun e w' => e = .returned (.bool b1) ∧ Below W.heap.size W w') := qq1
  have qq2H : Hid (∀ W, Below w.heap.size w W → Calls Tryz.prog 82 #[.string S] W fun e w' => e = .returned (.bool b2) ∧ Below W.heap.size W w') := qq2
  have qq3H : Hid (∀ W, Below w.heap.size w W → Calls Tryz.prog 25 #[.int .i64 f, .int .i64 111] W fun e w' => e = .returned (.bool b3) ∧ Below W.heap.size W w') := qq3
  have qq4H : Hid (∀ W, Below w.heap.size w W → Calls Tryz.prog 83 #[.int .i64 k, .int .i64 0, .int .i64 40] W fun e w' => e = .returned (.bool b4) ∧ Below W.heap.size W w') := qq4
  have qq5H : Hid (∀ W, Below w.heap.size w W → Calls Tryz.prog 83 #[.int .i64 l, .int .i64 0, .int .i64 40] W fun e w' => e = .returned (.bool b5) ∧ Below W.heap.size W w') := qq5
  have qq6H : Hid (∀ W, Below w.heap.size w W → Calls Tryz.prog 86 #[methV N S f k l a1 n1 c1 a2 n2 c2 a3 n3 c3 a4 n4 c4] W fun e w' => e = .returned (.bool cs) ∧ Below W.heap.size W w') := qq6
  have resH : Hid (∀ W, Calls Tryz.prog 84 #[.string S] W fun e w' => e = .returned (.string (mkS (sigRes S.data.toList))) ∧ Below W.heap.size W w') := fun W => specResult_calls S W hs
  have parH : Hid (∀ W, Calls Tryz.prog 85 #[.string S] W (ParPost S.data.toList W)) := fun W => specParams_calls S W hs
  have fH : Hid (∀ g W, Calls Tryz.prog 26 #[.int .i64 f, .int .i64 g] W fun e w' => e = .returned (.bool (hasB f g)) ∧ w' = W) := fun g W => l2Has_calls f g W
  have hpar := pars_le S.data.toList
  clear qq1 qq2 qq3 qq4 qq5 qq6
  obtain ⟨R, hR⟩ : ∃ R, methT N S f k l n1 n2 n3 n4 b1 b2 b3 b4 b5 cs = R := ⟨_, rfl⟩
  rw [hR]
  unfold methT placesB at hR
  unfold ParPost at parH
  generalize mkS (sigRes S.data.toList) = Z at *
  generalize (sigPars S.data.toList).length = pn at *
  have hRH : Hid (_ = R) := hR
  clear hR hs
  go_enter Tryz.func49, Tryz.ntmps49
  go_wp2_with fail
  obtain ⟨W0, hW0⟩ : ∃ W : World, W = w.alloc (.cells #[.string N, .string S, .int .i64 f, .int .i64 k, .int .i64 l, .slice a1 n1 c1, .slice a2 n2 c2, .slice a3 n3 c3, .slice a4 n4 c4] 79) := ⟨_, rfl⟩
  rw [← hW0]
  have r0 : Hid (Rec1 w W0 [.string N, .string S, .int .i64 f, .int .i64 k, .int .i64 l, .slice a1 n1 c1, .slice a2 n2 c2, .slice a3 n3 c3, .slice a4 n4 c4]) := Rec1.start hW0
  clear hW0
  refine (qq1H.out _ r0.out.hb).mono ?_
  rintro e w1 ⟨rfl, hb1⟩
  have r1 : Hid (Rec1 w w1 [.string N, .string S, .int .i64 f, .int .i64 k, .int .i64 l, .slice a1 n1 c1, .slice a2 n2 c2, .slice a3 n3 c3, .slice a4 n4 c4]) := r0.out.call hb1
  clear hb1
  have y0 := r1.out.cell 0 _ rfl
  have y1 := r1.out.cell 1 _ rfl
  have y2 := r1.out.cell 2 _ rfl
  have y3 := r1.out.cell 3 _ rfl
  have y4 := r1.out.cell 4 _ rfl
  have y5 := r1.out.cell 5 _ rfl
  have y6 := r1.out.cell 6 _ rfl
  have y7 := r1.out.cell 7 _ rfl
  have y8 := r1.out.cell 8 _ rfl
  cases b1 with
  | false =>
    go_wp2
    go_ret
    exact ⟨by rw [← hRH.out]; simp, r1.out.hb⟩
  | true =>
    go_wp2_with fail
    clear y0 y1 y2 y3 y4 y5 y6 y7 y8
    refine (qq2H.out _ r1.out.hb).mono ?_
    rintro e w2 ⟨rfl, hb2⟩
    have r2 : Hid (Rec1 w w2 [.string N, .string S, .int .i64 f, .int .i64 k, .int .i64 l, .slice a1 n1 c1, .slice a2 n2 c2, .slice a3 n3 c3, .slice a4 n4 c4]) := r1.out.call hb2
    clear hb2
    have y0 := r2.out.cell 0 _ rfl
    have y1 := r2.out.cell 1 _ rfl
    have y2 := r2.out.cell 2 _ rfl
    have y3 := r2.out.cell 3 _ rfl
    have y4 := r2.out.cell 4 _ rfl
    have y5 := r2.out.cell 5 _ rfl
    have y6 := r2.out.cell 6 _ rfl
    have y7 := r2.out.cell 7 _ rfl
    have y8 := r2.out.cell 8 _ rfl
    cases b2 with
    | false =>
      go_wp2
      go_ret
      exact ⟨by rw [← hRH.out]; simp, r2.out.hb⟩
    | true =>
      go_wp2_with fail
      clear y0 y1 y2 y3 y4 y5 y6 y7 y8
      refine (qq3H.out _ r2.out.hb).mono ?_
      rintro e w3 ⟨rfl, hb3⟩
      have r3 : Hid (Rec1 w w3 [.string N, .string S, .int .i64 f, .int .i64 k, .int .i64 l, .slice a1 n1 c1, .slice a2 n2 c2, .slice a3 n3 c3, .slice a4 n4 c4]) := r2.out.call hb3
      clear hb3
      have y0 := r3.out.cell 0 _ rfl
      have y1 := r3.out.cell 1 _ rfl
      have y2 := r3.out.cell 2 _ rfl
      have y3 := r3.out.cell 3 _ rfl
      have y4 := r3.out.cell 4 _ rfl
      have y5 := r3.out.cell 5 _ rfl
      have y6 := r3.out.cell 6 _ rfl
      have y7 := r3.out.cell 7 _ rfl
      have y8 := r3.out.cell 8 _ rfl
      cases b3 with
      | false =>
        go_wp2
        go_ret
        exact ⟨by rw [← hRH.out]; simp, r3.out.hb⟩
      | true =>
        go_wp2_with fail
        clear y0 y1 y2 y3 y4 y5 y6 y7 y8
        refine (qq4H.out _ r3.out.hb).mono ?_
        rintro e w4 ⟨rfl, hb4⟩
        have r4 : Hid (Rec1 w w4 [.string N, .string S, .int .i64 f, .int .i64 k, .int .i64 l, .slice a1 n1 c1, .slice a2 n2 c2, .slice a3 n3 c3, .slice a4 n4 c4]) := r3.out.call hb4
        clear hb4
        have y0 := r4.out.cell 0 _ rfl
        have y1 := r4.out.cell 1 _ rfl
        have y2 := r4.out.cell 2 _ rfl
        have y3 := r4.out.cell 3 _ rfl
        have y4 := r4.out.cell 4 _ rfl
        have y5 := r4.out.cell 5 _ rfl
        have y6 := r4.out.cell 6 _ rfl
        have y7 := r4.out.cell 7 _ rfl
        have y8 := r4.out.cell 8 _ rfl
        cases b4 with
        | false =>
          go_wp2
          go_ret
          exact ⟨by rw [← hRH.out]; simp, r4.out.hb⟩
        | true =>
          go_wp2_with fail
          clear y0 y1 y2 y3 y4 y5 y6 y7 y8
          refine (qq5H.out _ r4.out.hb).mono ?_
          rintro e w5 ⟨rfl, hb5⟩
          have r5 : Hid (Rec1 w w5 [.string N, .string S, .int .i64 f, .int .i64 k, .int .i64 l, .slice a1 n1 c1, .slice a2 n2 c2, .slice a3 n3 c3, .slice a4 n4 c4]) := r4.out.call hb5
          clear hb5
          have y0 := r5.out.cell 0 _ rfl
          have y1 := r5.out.cell 1 _ rfl
          have y2 := r5.out.cell 2 _ rfl
          have y3 := r5.out.cell 3 _ rfl
          have y4 := r5.out.cell 4 _ rfl
          have y5 := r5.out.cell 5 _ rfl
          have y6 := r5.out.cell 6 _ rfl
          have y7 := r5.out.cell 7 _ rfl
          have y8 := r5.out.cell 8 _ rfl
          cases b5 with
          | false =>
            go_wp2
            go_ret
            exact ⟨by rw [← hRH.out]; simp, r5.out.hb⟩
          | true =>
            cases hn : (N.toList == [110, 101, 119])
            · cases hst : (N.toList == [115, 116, 97, 114, 116])
              · skip
                cases g4 : hasB f 4
                · cases g68 : hasB f 68
                  · cases g1 : hasB f 1
                    · go_wp2_with (first | (go_at_call 26; refine (fH.out _ _).mono ?_; rintro e wq ⟨rfl, hwq⟩; subst hwq) | fail)
                      refine (parH.out _).mono ?_
                      rintro e wp ⟨⟨pa, pc, rfl, hpm⟩, hbp⟩
                      have rp : Hid (Rec1 w wp [.string N, .string S, .int .i64 f, .int .i64 k, .int .i64 l, .slice a1 n1 c1, .slice a2 n2 c2, .slice a3 n3 c3, .slice a4 n4 c4]) := r5.out.call hbp
                      clear hbp hpm y0 y1 y2 y3 y4 y5 y6 y7 y8
                      have y0 := rp.out.cell 0 _ rfl
                      have y1 := rp.out.cell 1 _ rfl
                      have y2 := rp.out.cell 2 _ rfl
                      have y3 := rp.out.cell 3 _ rfl
                      have y4 := rp.out.cell 4 _ rfl
                      have y5 := rp.out.cell 5 _ rfl
                      have y6 := rp.out.cell 6 _ rfl
                      have y7 := rp.out.cell 7 _ rfl
                      have y8 := rp.out.cell 8 _ rfl
                      by_cases hpl : ((pn : Int) + 1) ≤ l
                      · go_wp2_with (first | (go_at_call 26; refine (fH.out _ _).mono ?_; rintro e wq ⟨rfl, hwq⟩; subst hwq) | (go_at_call 86; refine (qq6H.out _ rp.out.hb).mono ?_; rintro e wc ⟨rfl, hbc⟩))
                        go_ret
                        exact ⟨by rw [← hRH.out]; simp [hn, hst, g4, g68, g1, hpl], below_on2 rp.out.hb hbc⟩
                      · go_wp2_with (first | (go_at_call 26; refine (fH.out _ _).mono ?_; rintro e wq ⟨rfl, hwq⟩; subst hwq))
                        go_ret
                        exact ⟨by rw [← hRH.out]; simp [hn, hst, g4, g68, g1]; intro hc; omega, rp.out.hb⟩
                    · go_wp2_with (first | (go_at_call 26; refine (fH.out _ _).mono ?_; rintro e wq ⟨rfl, hwq⟩; subst hwq) | fail)
                      refine (parH.out _).mono ?_
                      rintro e wp ⟨⟨pa, pc, rfl, hpm⟩, hbp⟩
                      have rp : Hid (Rec1 w wp [.string N, .string S, .int .i64 f, .int .i64 k, .int .i64 l, .slice a1 n1 c1, .slice a2 n2 c2, .slice a3 n3 c3, .slice a4 n4 c4]) := r5.out.call hbp
                      clear hbp hpm y0 y1 y2 y3 y4 y5 y6 y7 y8
                      have y0 := rp.out.cell 0 _ rfl
                      have y1 := rp.out.cell 1 _ rfl
                      have y2 := rp.out.cell 2 _ rfl
                      have y3 := rp.out.cell 3 _ rfl
                      have y4 := rp.out.cell 4 _ rfl
                      have y5 := rp.out.cell 5 _ rfl
                      have y6 := rp.out.cell 6 _ rfl
                      have y7 := rp.out.cell 7 _ rfl
                      have y8 := rp.out.cell 8 _ rfl
                      by_cases hpl : (pn : Int) ≤ l
                      · go_wp2_with (first | (go_at_call 26; refine (fH.out _ _).mono ?_; rintro e wq ⟨rfl, hwq⟩; subst hwq) | (go_at_call 86; refine (qq6H.out _ rp.out.hb).mono ?_; rintro e wc ⟨rfl, hbc⟩))
                        go_ret
                        exact ⟨by rw [← hRH.out]; simp [hn, hst, g4, g68, g1, hpl], below_on2 rp.out.hb hbc⟩
                      · go_wp2_with (first | (go_at_call 26; refine (fH.out _ _).mono ?_; rintro e wq ⟨rfl, hwq⟩; subst hwq))
                        go_ret
                        exact ⟨by rw [← hRH.out]; simp [hn, hst, g4, g68, g1]; intro hc; omega, rp.out.hb⟩
                  · go_wp2_with (first | (go_at_call 26; refine (fH.out _ _).mono ?_; rintro e wq ⟨rfl, hwq⟩; subst hwq))
                    all_goals (
                      go_ret
                      refine ⟨?_, r5.out.hb⟩
                      go_light
                      rw [← hRH.out]
                      refine ret_bool ?_
                      first
                        | rw [show sumZ n1 n2 n3 n4 = true from decide_eq_true (by omega)]
                        | rw [show sumZ n1 n2 n3 n4 = false from decide_eq_false (by omega)]
                      simp_all)
                · cases g107 : hasB f 107
                  · cases g68 : hasB f 68
                    · cases g1 : hasB f 1
                      · go_wp2_with (first | (go_at_call 26; refine (fH.out _ _).mono ?_; rintro e wq ⟨rfl, hwq⟩; subst hwq) | fail)
                        refine (parH.out _).mono ?_
                        rintro e wp ⟨⟨pa, pc, rfl, hpm⟩, hbp⟩
                        have rp : Hid (Rec1 w wp [.string N, .string S, .int .i64 f, .int .i64 k, .int .i64 l, .slice a1 n1 c1, .slice a2 n2 c2, .slice a3 n3 c3, .slice a4 n4 c4]) := r5.out.call hbp
                        clear hbp hpm y0 y1 y2 y3 y4 y5 y6 y7 y8
                        have y0 := rp.out.cell 0 _ rfl
                        have y1 := rp.out.cell 1 _ rfl
                        have y2 := rp.out.cell 2 _ rfl
                        have y3 := rp.out.cell 3 _ rfl
                        have y4 := rp.out.cell 4 _ rfl
                        have y5 := rp.out.cell 5 _ rfl
                        have y6 := rp.out.cell 6 _ rfl
                        have y7 := rp.out.cell 7 _ rfl
                        have y8 := rp.out.cell 8 _ rfl
                        by_cases hpl : ((pn : Int) + 1) ≤ l
                        · go_wp2_with (first | (go_at_call 26; refine (fH.out _ _).mono ?_; rintro e wq ⟨rfl, hwq⟩; subst hwq) | (go_at_call 86; refine (qq6H.out _ rp.out.hb).mono ?_; rintro e wc ⟨rfl, hbc⟩))
                          go_ret
                          exact ⟨by rw [← hRH.out]; simp [hn, hst, g4, g107, g68, g1, hpl], below_on2 rp.out.hb hbc⟩
                        · go_wp2_with (first | (go_at_call 26; refine (fH.out _ _).mono ?_; rintro e wq ⟨rfl, hwq⟩; subst hwq))
                          go_ret
                          exact ⟨by rw [← hRH.out]; simp [hn, hst, g4, g107, g68, g1]; intro hc; omega, rp.out.hb⟩
                      · go_wp2_with (first | (go_at_call 26; refine (fH.out _ _).mono ?_; rintro e wq ⟨rfl, hwq⟩; subst hwq) | fail)
                        refine (parH.out _).mono ?_
                        rintro e wp ⟨⟨pa, pc, rfl, hpm⟩, hbp⟩
                        have rp : Hid (Rec1 w wp [.string N, .string S, .int .i64 f, .int .i64 k, .int .i64 l, .slice a1 n1 c1, .slice a2 n2 c2, .slice a3 n3 c3, .slice a4 n4 c4]) := r5.out.call hbp
                        clear hbp hpm y0 y1 y2 y3 y4 y5 y6 y7 y8
                        have y0 := rp.out.cell 0 _ rfl
                        have y1 := rp.out.cell 1 _ rfl
                        have y2 := rp.out.cell 2 _ rfl
                        have y3 := rp.out.cell 3 _ rfl
                        have y4 := rp.out.cell 4 _ rfl
                        have y5 := rp.out.cell 5 _ rfl
                        have y6 := rp.out.cell 6 _ rfl
                        have y7 := rp.out.cell 7 _ rfl
                        have y8 := rp.out.cell 8 _ rfl
                        by_cases hpl : (pn : Int) ≤ l
                        · go_wp2_with (first | (go_at_call 26; refine (fH.out _ _).mono ?_; rintro e wq ⟨rfl, hwq⟩; subst hwq) | (go_at_call 86; refine (qq6H.out _ rp.out.hb).mono ?_; rintro e wc ⟨rfl, hbc⟩))
                          go_ret
                          exact ⟨by rw [← hRH.out]; simp [hn, hst, g4, g107, g68, g1, hpl], below_on2 rp.out.hb hbc⟩
                        · go_wp2_with (first | (go_at_call 26; refine (fH.out _ _).mono ?_; rintro e wq ⟨rfl, hwq⟩; subst hwq))
                          go_ret
                          exact ⟨by rw [← hRH.out]; simp [hn, hst, g4, g107, g68, g1]; intro hc; omega, rp.out.hb⟩
                    · go_wp2_with (first | (go_at_call 26; refine (fH.out _ _).mono ?_; rintro e wq ⟨rfl, hwq⟩; subst hwq))
                      all_goals (
                        go_ret
                        refine ⟨?_, r5.out.hb⟩
                        go_light
                        rw [← hRH.out]
                        refine ret_bool ?_
                        first
                          | rw [show sumZ n1 n2 n3 n4 = true from decide_eq_true (by omega)]
                          | rw [show sumZ n1 n2 n3 n4 = false from decide_eq_false (by omega)]
                        simp_all)
                  · go_wp2_with (first | (go_at_call 26; refine (fH.out _ _).mono ?_; rintro e wq ⟨rfl, hwq⟩; subst hwq))
                    go_ret
                    exact ⟨by rw [← hRH.out]; simp [hn, hst, g4, g107], r5.out.hb⟩
              · by_cases hsg : S.toList = [40, 41, 86]
                · cases g1s : hasB f 1
                  · go_wp2_with (first | (go_at_call 26; refine (fH.out _ _).mono ?_; rintro e wq ⟨rfl, hwq⟩; subst hwq))
                    go_ret
                    exact ⟨by rw [← hRH.out]; simp [hn, hst, hsg, g1s], r5.out.hb⟩
                  · cases g64 : hasB f 64
                    · skip
                      cases g4 : hasB f 4
                      · cases g68 : hasB f 68
                        · cases g1 : hasB f 1
                          · rw [g1s] at g1; cases g1
                          · go_wp2_with (first | (go_at_call 26; refine (fH.out _ _).mono ?_; rintro e wq ⟨rfl, hwq⟩; subst hwq) | fail)
                            refine (parH.out _).mono ?_
                            rintro e wp ⟨⟨pa, pc, rfl, hpm⟩, hbp⟩
                            have rp : Hid (Rec1 w wp [.string N, .string S, .int .i64 f, .int .i64 k, .int .i64 l, .slice a1 n1 c1, .slice a2 n2 c2, .slice a3 n3 c3, .slice a4 n4 c4]) := r5.out.call hbp
                            clear hbp hpm y0 y1 y2 y3 y4 y5 y6 y7 y8
                            have y0 := rp.out.cell 0 _ rfl
                            have y1 := rp.out.cell 1 _ rfl
                            have y2 := rp.out.cell 2 _ rfl
                            have y3 := rp.out.cell 3 _ rfl
                            have y4 := rp.out.cell 4 _ rfl
                            have y5 := rp.out.cell 5 _ rfl
                            have y6 := rp.out.cell 6 _ rfl
                            have y7 := rp.out.cell 7 _ rfl
                            have y8 := rp.out.cell 8 _ rfl
                            by_cases hpl : (pn : Int) ≤ l
                            · go_wp2_with (first | (go_at_call 26; refine (fH.out _ _).mono ?_; rintro e wq ⟨rfl, hwq⟩; subst hwq) | (go_at_call 86; refine (qq6H.out _ rp.out.hb).mono ?_; rintro e wc ⟨rfl, hbc⟩))
                              go_ret
                              exact ⟨by rw [← hRH.out]; simp [hn, hst, hsg, g1s, g64, g4, g68, hpl], below_on2 rp.out.hb hbc⟩
                            · go_wp2_with (first | (go_at_call 26; refine (fH.out _ _).mono ?_; rintro e wq ⟨rfl, hwq⟩; subst hwq))
                              go_ret
                              exact ⟨by rw [← hRH.out]; simp [hn, hst, hsg, g1s, g64, g4, g68]; intro hc; omega, rp.out.hb⟩
                        · go_wp2_with (first | (go_at_call 26; refine (fH.out _ _).mono ?_; rintro e wq ⟨rfl, hwq⟩; subst hwq))
                          all_goals (
                            go_ret
                            refine ⟨?_, r5.out.hb⟩
                            go_light
                            rw [← hRH.out]
                            refine ret_bool ?_
                            first
                              | rw [show sumZ n1 n2 n3 n4 = true from decide_eq_true (by omega)]
                              | rw [show sumZ n1 n2 n3 n4 = false from decide_eq_false (by omega)]
                            simp_all)
                      · cases g107 : hasB f 107
                        · cases g68 : hasB f 68
                          · cases g1 : hasB f 1
                            · rw [g1s] at g1; cases g1
                            · go_wp2_with (first | (go_at_call 26; refine (fH.out _ _).mono ?_; rintro e wq ⟨rfl, hwq⟩; subst hwq) | fail)
                              refine (parH.out _).mono ?_
                              rintro e wp ⟨⟨pa, pc, rfl, hpm⟩, hbp⟩
                              have rp : Hid (Rec1 w wp [.string N, .string S, .int .i64 f, .int .i64 k, .int .i64 l, .slice a1 n1 c1, .slice a2 n2 c2, .slice a3 n3 c3, .slice a4 n4 c4]) := r5.out.call hbp
                              clear hbp hpm y0 y1 y2 y3 y4 y5 y6 y7 y8
                              have y0 := rp.out.cell 0 _ rfl
                              have y1 := rp.out.cell 1 _ rfl
                              have y2 := rp.out.cell 2 _ rfl
                              have y3 := rp.out.cell 3 _ rfl
                              have y4 := rp.out.cell 4 _ rfl
                              have y5 := rp.out.cell 5 _ rfl
                              have y6 := rp.out.cell 6 _ rfl
                              have y7 := rp.out.cell 7 _ rfl
                              have y8 := rp.out.cell 8 _ rfl
                              by_cases hpl : (pn : Int) ≤ l
                              · go_wp2_with (first | (go_at_call 26; refine (fH.out _ _).mono ?_; rintro e wq ⟨rfl, hwq⟩; subst hwq) | (go_at_call 86; refine (qq6H.out _ rp.out.hb).mono ?_; rintro e wc ⟨rfl, hbc⟩))
                                go_ret
                                exact ⟨by rw [← hRH.out]; simp [hn, hst, hsg, g1s, g64, g4, g107, g68, hpl], below_on2 rp.out.hb hbc⟩
                              · go_wp2_with (first | (go_at_call 26; refine (fH.out _ _).mono ?_; rintro e wq ⟨rfl, hwq⟩; subst hwq))
                                go_ret
                                exact ⟨by rw [← hRH.out]; simp [hn, hst, hsg, g1s, g64, g4, g107, g68]; intro hc; omega, rp.out.hb⟩
                          · go_wp2_with (first | (go_at_call 26; refine (fH.out _ _).mono ?_; rintro e wq ⟨rfl, hwq⟩; subst hwq))
                            all_goals (
                              go_ret
                              refine ⟨?_, r5.out.hb⟩
                              go_light
                              rw [← hRH.out]
                              refine ret_bool ?_
                              first
                                | rw [show sumZ n1 n2 n3 n4 = true from decide_eq_true (by omega)]
                                | rw [show sumZ n1 n2 n3 n4 = false from decide_eq_false (by omega)]
                              simp_all)
                        · go_wp2_with (first | (go_at_call 26; refine (fH.out _ _).mono ?_; rintro e wq ⟨rfl, hwq⟩; subst hwq))
                          go_ret
                          exact ⟨by rw [← hRH.out]; simp [hn, hst, hsg, g1s, g64, g4, g107], r5.out.hb⟩
                    · go_wp2_with (first | (go_at_call 26; refine (fH.out _ _).mono ?_; rintro e wq ⟨rfl, hwq⟩; subst hwq))
                      go_ret
                      exact ⟨by rw [← hRH.out]; simp [hn, hst, hsg, g1s, g64], r5.out.hb⟩
                · go_wp2_with (first | (go_at_call 26; refine (fH.out _ _).mono ?_; rintro e wq ⟨rfl, hwq⟩; subst hwq))
                  go_ret
                  exact ⟨by rw [← hRH.out]; simp [hn, hst, hsg], r5.out.hb⟩
            · have hst : (N.toList == [115, 116, 97, 114, 116]) = false := by rw [eq_of_beq hn]; rfl
              go_wp2_with fail
              refine (resH.out _).mono ?_
              rintro e w6 ⟨rfl, hb6⟩
              have r6 : Hid (Rec1 w w6 [.string N, .string S, .int .i64 f, .int .i64 k, .int .i64 l, .slice a1 n1 c1, .slice a2 n2 c2, .slice a3 n3 c3, .slice a4 n4 c4]) := r5.out.call hb6
              clear hb6 y0 y1 y2 y3 y4 y5 y6 y7 y8
              have y0 := r6.out.cell 0 _ rfl
              have y1 := r6.out.cell 1 _ rfl
              have y2 := r6.out.cell 2 _ rfl
              have y3 := r6.out.cell 3 _ rfl
              have y4 := r6.out.cell 4 _ rfl
              have y5 := r6.out.cell 5 _ rfl
              have y6 := r6.out.cell 6 _ rfl
              have y7 := r6.out.cell 7 _ rfl
              have y8 := r6.out.cell 8 _ rfl
              by_cases hz : Z.toList = [86]
              · cases g103 : hasB f 103
                · skip
                  cases g4 : hasB f 4
                  · cases g68 : hasB f 68
                    · cases g1 : hasB f 1
                      · go_wp2_with (first | (go_at_call 26; refine (fH.out _ _).mono ?_; rintro e wq ⟨rfl, hwq⟩; subst hwq) | fail)
                        refine (parH.out _).mono ?_
                        rintro e wp ⟨⟨pa, pc, rfl, hpm⟩, hbp⟩
                        have rp : Hid (Rec1 w wp [.string N, .string S, .int .i64 f, .int .i64 k, .int .i64 l, .slice a1 n1 c1, .slice a2 n2 c2, .slice a3 n3 c3, .slice a4 n4 c4]) := r6.out.call hbp
                        clear hbp hpm y0 y1 y2 y3 y4 y5 y6 y7 y8
                        have y0 := rp.out.cell 0 _ rfl
                        have y1 := rp.out.cell 1 _ rfl
                        have y2 := rp.out.cell 2 _ rfl
                        have y3 := rp.out.cell 3 _ rfl
                        have y4 := rp.out.cell 4 _ rfl
                        have y5 := rp.out.cell 5 _ rfl
                        have y6 := rp.out.cell 6 _ rfl
                        have y7 := rp.out.cell 7 _ rfl
                        have y8 := rp.out.cell 8 _ rfl
                        by_cases hpl : ((pn : Int) + 1) ≤ l
                        · go_wp2_with (first | (go_at_call 26; refine (fH.out _ _).mono ?_; rintro e wq ⟨rfl, hwq⟩; subst hwq) | (go_at_call 86; refine (qq6H.out _ rp.out.hb).mono ?_; rintro e wc ⟨rfl, hbc⟩))
                          go_ret
                          exact ⟨by rw [← hRH.out]; simp [hn, hst, hz, g103, g4, g68, g1, hpl], below_on2 rp.out.hb hbc⟩
                        · go_wp2_with (first | (go_at_call 26; refine (fH.out _ _).mono ?_; rintro e wq ⟨rfl, hwq⟩; subst hwq))
                          go_ret
                          exact ⟨by rw [← hRH.out]; simp [hn, hst, hz, g103, g4, g68, g1]; intro hc; omega, rp.out.hb⟩
                      · go_wp2_with (first | (go_at_call 26; refine (fH.out _ _).mono ?_; rintro e wq ⟨rfl, hwq⟩; subst hwq) | fail)
                        refine (parH.out _).mono ?_
                        rintro e wp ⟨⟨pa, pc, rfl, hpm⟩, hbp⟩
                        have rp : Hid (Rec1 w wp [.string N, .string S, .int .i64 f, .int .i64 k, .int .i64 l, .slice a1 n1 c1, .slice a2 n2 c2, .slice a3 n3 c3, .slice a4 n4 c4]) := r6.out.call hbp
                        clear hbp hpm y0 y1 y2 y3 y4 y5 y6 y7 y8
                        have y0 := rp.out.cell 0 _ rfl
                        have y1 := rp.out.cell 1 _ rfl
                        have y2 := rp.out.cell 2 _ rfl
                        have y3 := rp.out.cell 3 _ rfl
                        have y4 := rp.out.cell 4 _ rfl
                        have y5 := rp.out.cell 5 _ rfl
                        have y6 := rp.out.cell 6 _ rfl
                        have y7 := rp.out.cell 7 _ rfl
                        have y8 := rp.out.cell 8 _ rfl
                        by_cases hpl : (pn : Int) ≤ l
                        · go_wp2_with (first | (go_at_call 26; refine (fH.out _ _).mono ?_; rintro e wq ⟨rfl, hwq⟩; subst hwq) | (go_at_call 86; refine (qq6H.out _ rp.out.hb).mono ?_; rintro e wc ⟨rfl, hbc⟩))
                          go_ret
                          exact ⟨by rw [← hRH.out]; simp [hn, hst, hz, g103, g4, g68, g1, hpl], below_on2 rp.out.hb hbc⟩
                        · go_wp2_with (first | (go_at_call 26; refine (fH.out _ _).mono ?_; rintro e wq ⟨rfl, hwq⟩; subst hwq))
                          go_ret
                          exact ⟨by rw [← hRH.out]; simp [hn, hst, hz, g103, g4, g68, g1]; intro hc; omega, rp.out.hb⟩
                    · go_wp2_with (first | (go_at_call 26; refine (fH.out _ _).mono ?_; rintro e wq ⟨rfl, hwq⟩; subst hwq))
                      all_goals (
                        go_ret
                        refine ⟨?_, r6.out.hb⟩
                        go_light
                        rw [← hRH.out]
                        refine ret_bool ?_
                        first
                          | rw [show sumZ n1 n2 n3 n4 = true from decide_eq_true (by omega)]
                          | rw [show sumZ n1 n2 n3 n4 = false from decide_eq_false (by omega)]
                        simp_all)
                  · cases g107 : hasB f 107
                    · cases g68 : hasB f 68
                      · cases g1 : hasB f 1
                        · go_wp2_with (first | (go_at_call 26; refine (fH.out _ _).mono ?_; rintro e wq ⟨rfl, hwq⟩; subst hwq) | fail)
                          refine (parH.out _).mono ?_
                          rintro e wp ⟨⟨pa, pc, rfl, hpm⟩, hbp⟩
                          have rp : Hid (Rec1 w wp [.string N, .string S, .int .i64 f, .int .i64 k, .int .i64 l, .slice a1 n1 c1, .slice a2 n2 c2, .slice a3 n3 c3, .slice a4 n4 c4]) := r6.out.call hbp
                          clear hbp hpm y0 y1 y2 y3 y4 y5 y6 y7 y8
                          have y0 := rp.out.cell 0 _ rfl
                          have y1 := rp.out.cell 1 _ rfl
                          have y2 := rp.out.cell 2 _ rfl
                          have y3 := rp.out.cell 3 _ rfl
                          have y4 := rp.out.cell 4 _ rfl
                          have y5 := rp.out.cell 5 _ rfl
                          have y6 := rp.out.cell 6 _ rfl
                          have y7 := rp.out.cell 7 _ rfl
                          have y8 := rp.out.cell 8 _ rfl
                          by_cases hpl : ((pn : Int) + 1) ≤ l
                          · go_wp2_with (first | (go_at_call 26; refine (fH.out _ _).mono ?_; rintro e wq ⟨rfl, hwq⟩; subst hwq) | (go_at_call 86; refine (qq6H.out _ rp.out.hb).mono ?_; rintro e wc ⟨rfl, hbc⟩))
                            go_ret
                            exact ⟨by rw [← hRH.out]; simp [hn, hst, hz, g103, g4, g107, g68, g1, hpl], below_on2 rp.out.hb hbc⟩
                          · go_wp2_with (first | (go_at_call 26; refine (fH.out _ _).mono ?_; rintro e wq ⟨rfl, hwq⟩; subst hwq))
                            go_ret
                            exact ⟨by rw [← hRH.out]; simp [hn, hst, hz, g103, g4, g107, g68, g1]; intro hc; omega, rp.out.hb⟩
                        · go_wp2_with (first | (go_at_call 26; refine (fH.out _ _).mono ?_; rintro e wq ⟨rfl, hwq⟩; subst hwq) | fail)
                          refine (parH.out _).mono ?_
                          rintro e wp ⟨⟨pa, pc, rfl, hpm⟩, hbp⟩
                          have rp : Hid (Rec1 w wp [.string N, .string S, .int .i64 f, .int .i64 k, .int .i64 l, .slice a1 n1 c1, .slice a2 n2 c2, .slice a3 n3 c3, .slice a4 n4 c4]) := r6.out.call hbp
                          clear hbp hpm y0 y1 y2 y3 y4 y5 y6 y7 y8
                          have y0 := rp.out.cell 0 _ rfl
                          have y1 := rp.out.cell 1 _ rfl
                          have y2 := rp.out.cell 2 _ rfl
                          have y3 := rp.out.cell 3 _ rfl
                          have y4 := rp.out.cell 4 _ rfl
                          have y5 := rp.out.cell 5 _ rfl
                          have y6 := rp.out.cell 6 _ rfl
                          have y7 := rp.out.cell 7 _ rfl
                          have y8 := rp.out.cell 8 _ rfl
                          by_cases hpl : (pn : Int) ≤ l
                          · go_wp2_with (first | (go_at_call 26; refine (fH.out _ _).mono ?_; rintro e wq ⟨rfl, hwq⟩; subst hwq) | (go_at_call 86; refine (qq6H.out _ rp.out.hb).mono ?_; rintro e wc ⟨rfl, hbc⟩))
                            go_ret
                            exact ⟨by rw [← hRH.out]; simp [hn, hst, hz, g103, g4, g107, g68, g1, hpl], below_on2 rp.out.hb hbc⟩
                          · go_wp2_with (first | (go_at_call 26; refine (fH.out _ _).mono ?_; rintro e wq ⟨rfl, hwq⟩; subst hwq))
                            go_ret
                            exact ⟨by rw [← hRH.out]; simp [hn, hst, hz, g103, g4, g107, g68, g1]; intro hc; omega, rp.out.hb⟩
                      · go_wp2_with (first | (go_at_call 26; refine (fH.out _ _).mono ?_; rintro e wq ⟨rfl, hwq⟩; subst hwq))
                        all_goals (
                          go_ret
                          refine ⟨?_, r6.out.hb⟩
                          go_light
                          rw [← hRH.out]
                          refine ret_bool ?_
                          first
                            | rw [show sumZ n1 n2 n3 n4 = true from decide_eq_true (by omega)]
                            | rw [show sumZ n1 n2 n3 n4 = false from decide_eq_false (by omega)]
                          simp_all)
                    · go_wp2_with (first | (go_at_call 26; refine (fH.out _ _).mono ?_; rintro e wq ⟨rfl, hwq⟩; subst hwq))
                      go_ret
                      exact ⟨by rw [← hRH.out]; simp [hn, hst, hz, g103, g4, g107], r6.out.hb⟩
                · go_wp2_with (first | (go_at_call 26; refine (fH.out _ _).mono ?_; rintro e wq ⟨rfl, hwq⟩; subst hwq))
                  go_ret
                  exact ⟨by rw [← hRH.out]; simp [hn, hz, g103], r6.out.hb⟩
              · go_wp2_with (first | (go_at_call 26; refine (fH.out _ _).mono ?_; rintro e wq ⟨rfl, hwq⟩; subst hwq))
                go_ret
                exact ⟨by rw [← hRH.out]; simp [hn, hz], r6.out.hb⟩
end Go.Proofs.YthbledmeghkfpaaGreatDoor
