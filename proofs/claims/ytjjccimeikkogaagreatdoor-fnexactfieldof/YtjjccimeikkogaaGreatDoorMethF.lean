import Derived.Test.YtjjccimeikkogaaGreatDoorMethD
set_option maxRecDepth 1000000
set_option maxHeartbeats 8000000
namespace Go.Proofs.YtjjccimeikkogaaGreatDoor
set_option linter.unusedVariables false
open Go.ChangeShapes Go.WideShapes Go.ChangeAt Go.RowKit
def methT (N S : ByteArray) (f k l : Int) (n1 n2 n3 n4 : Nat) (b1 b2 b3 b4 b5 cs : Bool) : Bool :=
 if (b1 && (b2 && (b3 && (b4 && b5)))) = false then false
 else if ((N.toList == [110, 101, 119]) && (((mkS (sigRes S.data.toList)).toList != [86]) || hasB f 103)) = true then false
 else if ((N.toList == [115, 116, 97, 114, 116]) && ((S.toList != [40, 41, 86]) || (!hasB f 1 || hasB f 64))) = true then false
 else if (hasB f 4 && hasB f 107) = true then false
 else if hasB f 68 = true then sumZ n1 n2 n3 n4 && k == 0 && l == 0
 else decide (placesB S f ≤ l) && cs
theorem specMethodWalk (N S : ByteArray) (f k l : Int) (a1 : Option Addr) (n1 c1 : Nat) (a2 : Option Addr) (n2 c2 : Nat) (a3 : Option Addr) (n3 c3 : Nat) (a4 : Option Addr) (n4 c4 : Nat) (b1 b2 b3 b4 b5 cs : Bool) (w : World) (h1 : n1 ≤ 1048576) (h2 : n2 ≤ 1048576) (h3 : n3 ≤ 1048576) (h4 : n4 ≤ 1048576) (hs : S.size ≤ 1048576)
  (qq1 : ∀ W, Below w.heap.size w W → Calls Tryz.prog 90 #[.string N] W fun e w' => e = .returned (.bool b1) ∧ Below W.heap.size W w')
  (qq2 : ∀ W, Below w.heap.size w W → Calls Tryz.prog 173 #[.string S] W fun e w' => e = .returned (.bool b2) ∧ Below W.heap.size W w')
  (qq3 : ∀ W, Below w.heap.size w W → Calls Tryz.prog 104 #[.int .i64 f, .int .i64 111] W fun e w' => e = .returned (.bool b3) ∧ Below W.heap.size W w')
  (qq4 : ∀ W, Below w.heap.size w W → Calls Tryz.prog 174 #[.int .i64 k, .int .i64 0, .int .i64 40] W fun e w' => e = .returned (.bool b4) ∧ Below W.heap.size W w')
  (qq5 : ∀ W, Below w.heap.size w W → Calls Tryz.prog 174 #[.int .i64 l, .int .i64 0, .int .i64 40] W fun e w' => e = .returned (.bool b5) ∧ Below W.heap.size W w')
  (qq6 : ∀ W, Below w.heap.size w W → Calls Tryz.prog 177 #[methV N S f k l a1 n1 c1 a2 n2 c2 a3 n3 c3 a4 n4 c4] W fun e w' => e = .returned (.bool cs) ∧ Below W.heap.size W w') :
  Calls Tryz.prog 137 #[methV N S f k l a1 n1 c1 a2 n2 c2 a3 n3 c3 a4 n4 c4] w fun e w' => e = .returned (.bool (methT N S f k l n1 n2 n3 n4 b1 b2 b3 b4 b5 cs)) ∧ Below w.heap.size w w' := by
 have qq1H : Hid (∀ W, Below w.heap.size w W → Calls Tryz.prog 90 #[.string N] W fun e w' => e = .returned (.bool b1) ∧ Below W.heap.size W w') := qq1
 have qq2H : Hid (∀ W, Below w.heap.size w W → Calls Tryz.prog 173 #[.string S] W fun e w' => e = .returned (.bool b2) ∧ Below W.heap.size W w') := qq2
 have qq3H : Hid (∀ W, Below w.heap.size w W → Calls Tryz.prog 104 #[.int .i64 f, .int .i64 111] W fun e w' => e = .returned (.bool b3) ∧ Below W.heap.size W w') := qq3
 have qq4H : Hid (∀ W, Below w.heap.size w W → Calls Tryz.prog 174 #[.int .i64 k, .int .i64 0, .int .i64 40] W fun e w' => e = .returned (.bool b4) ∧ Below W.heap.size W w') := qq4
 have qq5H : Hid (∀ W, Below w.heap.size w W → Calls Tryz.prog 174 #[.int .i64 l, .int .i64 0, .int .i64 40] W fun e w' => e = .returned (.bool b5) ∧ Below W.heap.size W w') := qq5
 have qq6H : Hid (∀ W, Below w.heap.size w W → Calls Tryz.prog 177 #[methV N S f k l a1 n1 c1 a2 n2 c2 a3 n3 c3 a4 n4 c4] W fun e w' => e = .returned (.bool cs) ∧ Below W.heap.size W w') := qq6
 have resH : Hid (∀ W, Calls Tryz.prog 175 #[.string S] W fun e w' => e = .returned (.string (mkS (sigRes S.data.toList))) ∧ Below W.heap.size W w') := fun W => specResult_calls S W hs
 have parH : Hid (∀ W, Calls Tryz.prog 176 #[.string S] W (ParPost S.data.toList W)) := fun W => specParams_calls S W hs
 have fH : Hid (∀ g W, Calls Tryz.prog 96 #[.int .i64 f, .int .i64 g] W fun e w' => e = .returned (.bool (hasB f g)) ∧ w' = W) := fun g W => l2Has_calls f g W
 have hpar := pars_le S.data.toList
 clear qq1 qq2 qq3 qq4 qq5 qq6
 obtain ⟨R, hR⟩ : ∃ R, methT N S f k l n1 n2 n3 n4 b1 b2 b3 b4 b5 cs = R := ⟨_, rfl⟩
 rw [hR]
 unfold methT placesB at hR
 unfold ParPost at parH
 generalize mkS (sigRes S.data.toList) = Z at *
 generalize (sigPars S.data.toList).length = pn at *
 have hRH : Hid (_ = R) := hR
 clear hR hs
 go_enter Tryz.func137, Tryz.ntmps137
 go_wp2_with fail
 obtain ⟨W0, hW0⟩ : ∃ W : World, W = w.alloc (.cells #[.string N, .string S, .int .i64 f, .int .i64 k, .int .i64 l, .slice a1 n1 c1, .slice a2 n2 c2, .slice a3 n3 c3, .slice a4 n4 c4] 91) := ⟨_, rfl⟩
 rw [← hW0]
 have r0 : Hid (Rec1 w W0 [.string N, .string S, .int .i64 f, .int .i64 k, .int .i64 l, .slice a1 n1 c1, .slice a2 n2 c2, .slice a3 n3 c3, .slice a4 n4 c4]) := Rec1.start hW0
 clear hW0
 refine (qq1H.out _ r0.out.hb).mono ?_
 rintro e w1 ⟨rfl, hb1⟩
 have r1 : Hid (Rec1 w w1 [.string N, .string S, .int .i64 f, .int .i64 k, .int .i64 l, .slice a1 n1 c1, .slice a2 n2 c2, .slice a3 n3 c3, .slice a4 n4 c4]) := r0.out.call hb1
 clear hb1
 have y0 := r1.out.cell 0 _ rfl
 have y1 := r1.out.cell 1 _ rfl
 have y2 := r1.out.cell 2 _ rfl
 have y3 := r1.out.cell 3 _ rfl
 have y4 := r1.out.cell 4 _ rfl
 have y5 := r1.out.cell 5 _ rfl
 have y6 := r1.out.cell 6 _ rfl
 have y7 := r1.out.cell 7 _ rfl
 have y8 := r1.out.cell 8 _ rfl
 cases b1 with
 | false =>
  go_wp2
  go_ret
  exact ⟨by rw [← hRH.out]; simp, r1.out.hb⟩
 | true =>
  go_wp2_with fail
  clear y0 y1 y2 y3 y4 y5 y6 y7 y8
  refine (qq2H.out _ r1.out.hb).mono ?_
  rintro e w2 ⟨rfl, hb2⟩
  have r2 : Hid (Rec1 w w2 [.string N, .string S, .int .i64 f, .int .i64 k, .int .i64 l, .slice a1 n1 c1, .slice a2 n2 c2, .slice a3 n3 c3, .slice a4 n4 c4]) := r1.out.call hb2
  clear hb2
  have y0 := r2.out.cell 0 _ rfl
  have y1 := r2.out.cell 1 _ rfl
  have y2 := r2.out.cell 2 _ rfl
  have y3 := r2.out.cell 3 _ rfl
  have y4 := r2.out.cell 4 _ rfl
  have y5 := r2.out.cell 5 _ rfl
  have y6 := r2.out.cell 6 _ rfl
  have y7 := r2.out.cell 7 _ rfl
  have y8 := r2.out.cell 8 _ rfl
  cases b2 with
  | false =>
   go_wp2
   go_ret
   exact ⟨by rw [← hRH.out]; simp, r2.out.hb⟩
  | true =>
   go_wp2_with fail
   clear y0 y1 y2 y3 y4 y5 y6 y7 y8
   refine (qq3H.out _ r2.out.hb).mono ?_
   rintro e w3 ⟨rfl, hb3⟩
   have r3 : Hid (Rec1 w w3 [.string N, .string S, .int .i64 f, .int .i64 k, .int .i64 l, .slice a1 n1 c1, .slice a2 n2 c2, .slice a3 n3 c3, .slice a4 n4 c4]) := r2.out.call hb3
   clear hb3
   have y0 := r3.out.cell 0 _ rfl
   have y1 := r3.out.cell 1 _ rfl
   have y2 := r3.out.cell 2 _ rfl
   have y3 := r3.out.cell 3 _ rfl
   have y4 := r3.out.cell 4 _ rfl
   have y5 := r3.out.cell 5 _ rfl
   have y6 := r3.out.cell 6 _ rfl
   have y7 := r3.out.cell 7 _ rfl
   have y8 := r3.out.cell 8 _ rfl
   cases b3 with
   | false =>
    go_wp2
    go_ret
    exact ⟨by rw [← hRH.out]; simp, r3.out.hb⟩
   | true =>
    go_wp2_with fail
    clear y0 y1 y2 y3 y4 y5 y6 y7 y8
    refine (qq4H.out _ r3.out.hb).mono ?_
    rintro e w4 ⟨rfl, hb4⟩
    have r4 : Hid (Rec1 w w4 [.string N, .string S, .int .i64 f, .int .i64 k, .int .i64 l, .slice a1 n1 c1, .slice a2 n2 c2, .slice a3 n3 c3, .slice a4 n4 c4]) := r3.out.call hb4
    clear hb4
    have y0 := r4.out.cell 0 _ rfl
    have y1 := r4.out.cell 1 _ rfl
    have y2 := r4.out.cell 2 _ rfl
    have y3 := r4.out.cell 3 _ rfl
    have y4 := r4.out.cell 4 _ rfl
    have y5 := r4.out.cell 5 _ rfl
    have y6 := r4.out.cell 6 _ rfl
    have y7 := r4.out.cell 7 _ rfl
    have y8 := r4.out.cell 8 _ rfl
    cases b4 with
    | false =>
     go_wp2
     go_ret
     exact ⟨by rw [← hRH.out]; simp, r4.out.hb⟩
    | true =>
     go_wp2_with fail
     clear y0 y1 y2 y3 y4 y5 y6 y7 y8
     refine (qq5H.out _ r4.out.hb).mono ?_
     rintro e w5 ⟨rfl, hb5⟩
     have r5 : Hid (Rec1 w w5 [.string N, .string S, .int .i64 f, .int .i64 k, .int .i64 l, .slice a1 n1 c1, .slice a2 n2 c2, .slice a3 n3 c3, .slice a4 n4 c4]) := r4.out.call hb5
     clear hb5
     have y0 := r5.out.cell 0 _ rfl
     have y1 := r5.out.cell 1 _ rfl
     have y2 := r5.out.cell 2 _ rfl
     have y3 := r5.out.cell 3 _ rfl
     have y4 := r5.out.cell 4 _ rfl
     have y5 := r5.out.cell 5 _ rfl
     have y6 := r5.out.cell 6 _ rfl
     have y7 := r5.out.cell 7 _ rfl
     have y8 := r5.out.cell 8 _ rfl
     cases b5 with
     | false =>
      go_wp2
      go_ret
      exact ⟨by rw [← hRH.out]; simp, r5.out.hb⟩
     | true =>
      cases hn : (N.toList == [110, 101, 119])
      ·cases hst : (N.toList == [115, 116, 97, 114, 116])
       ·skip
        cases g4 : hasB f 4
        ·cases g68 : hasB f 68
         ·cases g1 : hasB f 1
          ·go_wp2_with (first | (go_at_call 96; refine (fH.out _ _).mono ?_; rintro e wq ⟨rfl, hwq⟩; subst hwq) | fail)
           refine (parH.out _).mono ?_
           rintro e wp ⟨⟨pa, pc, rfl, hpm⟩, hbp⟩
           have rp : Hid (Rec1 w wp [.string N, .string S, .int .i64 f, .int .i64 k, .int .i64 l, .slice a1 n1 c1, .slice a2 n2 c2, .slice a3 n3 c3, .slice a4 n4 c4]) := r5.out.call hbp
           clear hbp hpm y0 y1 y2 y3 y4 y5 y6 y7 y8
           have y0 := rp.out.cell 0 _ rfl
           have y1 := rp.out.cell 1 _ rfl
           have y2 := rp.out.cell 2 _ rfl
           have y3 := rp.out.cell 3 _ rfl
           have y4 := rp.out.cell 4 _ rfl
           have y5 := rp.out.cell 5 _ rfl
           have y6 := rp.out.cell 6 _ rfl
           have y7 := rp.out.cell 7 _ rfl
           have y8 := rp.out.cell 8 _ rfl
           by_cases hpl : ((pn : Int) + 1) ≤ l
           ·go_wp2_with (first | (go_at_call 96; refine (fH.out _ _).mono ?_; rintro e wq ⟨rfl, hwq⟩; subst hwq) | (go_at_call 177; refine (qq6H.out _ rp.out.hb).mono ?_; rintro e wc ⟨rfl, hbc⟩))
            go_ret
            exact ⟨by rw [← hRH.out]; simp [hn, hst, g4, g68, g1, hpl], below_on2 rp.out.hb hbc⟩
           ·go_wp2_with (first | (go_at_call 96; refine (fH.out _ _).mono ?_; rintro e wq ⟨rfl, hwq⟩; subst hwq))
            go_ret
            exact ⟨by rw [← hRH.out]; simp [hn, hst, g4, g68, g1]; intro hc; omega, rp.out.hb⟩
          ·go_wp2_with (first | (go_at_call 96; refine (fH.out _ _).mono ?_; rintro e wq ⟨rfl, hwq⟩; subst hwq) | fail)
           refine (parH.out _).mono ?_
           rintro e wp ⟨⟨pa, pc, rfl, hpm⟩, hbp⟩
           have rp : Hid (Rec1 w wp [.string N, .string S, .int .i64 f, .int .i64 k, .int .i64 l, .slice a1 n1 c1, .slice a2 n2 c2, .slice a3 n3 c3, .slice a4 n4 c4]) := r5.out.call hbp
           clear hbp hpm y0 y1 y2 y3 y4 y5 y6 y7 y8
           have y0 := rp.out.cell 0 _ rfl
           have y1 := rp.out.cell 1 _ rfl
           have y2 := rp.out.cell 2 _ rfl
           have y3 := rp.out.cell 3 _ rfl
           have y4 := rp.out.cell 4 _ rfl
           have y5 := rp.out.cell 5 _ rfl
           have y6 := rp.out.cell 6 _ rfl
           have y7 := rp.out.cell 7 _ rfl
           have y8 := rp.out.cell 8 _ rfl
           by_cases hpl : (pn : Int) ≤ l
           ·go_wp2_with (first | (go_at_call 96; refine (fH.out _ _).mono ?_; rintro e wq ⟨rfl, hwq⟩; subst hwq) | (go_at_call 177; refine (qq6H.out _ rp.out.hb).mono ?_; rintro e wc ⟨rfl, hbc⟩))
            go_ret
            exact ⟨by rw [← hRH.out]; simp [hn, hst, g4, g68, g1, hpl], below_on2 rp.out.hb hbc⟩
           ·go_wp2_with (first | (go_at_call 96; refine (fH.out _ _).mono ?_; rintro e wq ⟨rfl, hwq⟩; subst hwq))
            go_ret
            exact ⟨by rw [← hRH.out]; simp [hn, hst, g4, g68, g1]; intro hc; omega, rp.out.hb⟩
         ·go_wp2_with (first | (go_at_call 96; refine (fH.out _ _).mono ?_; rintro e wq ⟨rfl, hwq⟩; subst hwq))
          all_goals (
           go_ret
           refine ⟨?_, r5.out.hb⟩
           go_light
           rw [← hRH.out]
           refine ret_bool ?_
           first
            | rw [show sumZ n1 n2 n3 n4 = true from decide_eq_true (by omega)]
            | rw [show sumZ n1 n2 n3 n4 = false from decide_eq_false (by omega)]
           simp_all)
        ·cases g107 : hasB f 107
         ·cases g68 : hasB f 68
          ·cases g1 : hasB f 1
           ·go_wp2_with (first | (go_at_call 96; refine (fH.out _ _).mono ?_; rintro e wq ⟨rfl, hwq⟩; subst hwq) | fail)
            refine (parH.out _).mono ?_
            rintro e wp ⟨⟨pa, pc, rfl, hpm⟩, hbp⟩
            have rp : Hid (Rec1 w wp [.string N, .string S, .int .i64 f, .int .i64 k, .int .i64 l, .slice a1 n1 c1, .slice a2 n2 c2, .slice a3 n3 c3, .slice a4 n4 c4]) := r5.out.call hbp
            clear hbp hpm y0 y1 y2 y3 y4 y5 y6 y7 y8
            have y0 := rp.out.cell 0 _ rfl
            have y1 := rp.out.cell 1 _ rfl
            have y2 := rp.out.cell 2 _ rfl
            have y3 := rp.out.cell 3 _ rfl
            have y4 := rp.out.cell 4 _ rfl
            have y5 := rp.out.cell 5 _ rfl
            have y6 := rp.out.cell 6 _ rfl
            have y7 := rp.out.cell 7 _ rfl
            have y8 := rp.out.cell 8 _ rfl
            by_cases hpl : ((pn : Int) + 1) ≤ l
            ·go_wp2_with (first | (go_at_call 96; refine (fH.out _ _).mono ?_; rintro e wq ⟨rfl, hwq⟩; subst hwq) | (go_at_call 177; refine (qq6H.out _ rp.out.hb).mono ?_; rintro e wc ⟨rfl, hbc⟩))
             go_ret
             exact ⟨by rw [← hRH.out]; simp [hn, hst, g4, g107, g68, g1, hpl], below_on2 rp.out.hb hbc⟩
            ·go_wp2_with (first | (go_at_call 96; refine (fH.out _ _).mono ?_; rintro e wq ⟨rfl, hwq⟩; subst hwq))
             go_ret
             exact ⟨by rw [← hRH.out]; simp [hn, hst, g4, g107, g68, g1]; intro hc; omega, rp.out.hb⟩
           ·go_wp2_with (first | (go_at_call 96; refine (fH.out _ _).mono ?_; rintro e wq ⟨rfl, hwq⟩; subst hwq) | fail)
            refine (parH.out _).mono ?_
            rintro e wp ⟨⟨pa, pc, rfl, hpm⟩, hbp⟩
            have rp : Hid (Rec1 w wp [.string N, .string S, .int .i64 f, .int .i64 k, .int .i64 l, .slice a1 n1 c1, .slice a2 n2 c2, .slice a3 n3 c3, .slice a4 n4 c4]) := r5.out.call hbp
            clear hbp hpm y0 y1 y2 y3 y4 y5 y6 y7 y8
            have y0 := rp.out.cell 0 _ rfl
            have y1 := rp.out.cell 1 _ rfl
            have y2 := rp.out.cell 2 _ rfl
            have y3 := rp.out.cell 3 _ rfl
            have y4 := rp.out.cell 4 _ rfl
            have y5 := rp.out.cell 5 _ rfl
            have y6 := rp.out.cell 6 _ rfl
            have y7 := rp.out.cell 7 _ rfl
            have y8 := rp.out.cell 8 _ rfl
            by_cases hpl : (pn : Int) ≤ l
            ·go_wp2_with (first | (go_at_call 96; refine (fH.out _ _).mono ?_; rintro e wq ⟨rfl, hwq⟩; subst hwq) | (go_at_call 177; refine (qq6H.out _ rp.out.hb).mono ?_; rintro e wc ⟨rfl, hbc⟩))
             go_ret
             exact ⟨by rw [← hRH.out]; simp [hn, hst, g4, g107, g68, g1, hpl], below_on2 rp.out.hb hbc⟩
            ·go_wp2_with (first | (go_at_call 96; refine (fH.out _ _).mono ?_; rintro e wq ⟨rfl, hwq⟩; subst hwq))
             go_ret
             exact ⟨by rw [← hRH.out]; simp [hn, hst, g4, g107, g68, g1]; intro hc; omega, rp.out.hb⟩
          ·go_wp2_with (first | (go_at_call 96; refine (fH.out _ _).mono ?_; rintro e wq ⟨rfl, hwq⟩; subst hwq))
           all_goals (
            go_ret
            refine ⟨?_, r5.out.hb⟩
            go_light
            rw [← hRH.out]
            refine ret_bool ?_
            first
             | rw [show sumZ n1 n2 n3 n4 = true from decide_eq_true (by omega)]
             | rw [show sumZ n1 n2 n3 n4 = false from decide_eq_false (by omega)]
            simp_all)
         ·go_wp2_with (first | (go_at_call 96; refine (fH.out _ _).mono ?_; rintro e wq ⟨rfl, hwq⟩; subst hwq))
          go_ret
          exact ⟨by rw [← hRH.out]; simp [hn, hst, g4, g107], r5.out.hb⟩
       ·by_cases hsg : S.toList = [40, 41, 86]
        ·cases g1s : hasB f 1
         ·go_wp2_with (first | (go_at_call 96; refine (fH.out _ _).mono ?_; rintro e wq ⟨rfl, hwq⟩; subst hwq))
          go_ret
          exact ⟨by rw [← hRH.out]; simp [hn, hst, hsg, g1s], r5.out.hb⟩
         ·cases g64 : hasB f 64
          ·skip
           cases g4 : hasB f 4
           ·cases g68 : hasB f 68
            ·cases g1 : hasB f 1
             ·rw [g1s] at g1; cases g1
             ·go_wp2_with (first | (go_at_call 96; refine (fH.out _ _).mono ?_; rintro e wq ⟨rfl, hwq⟩; subst hwq) | fail)
              refine (parH.out _).mono ?_
              rintro e wp ⟨⟨pa, pc, rfl, hpm⟩, hbp⟩
              have rp : Hid (Rec1 w wp [.string N, .string S, .int .i64 f, .int .i64 k, .int .i64 l, .slice a1 n1 c1, .slice a2 n2 c2, .slice a3 n3 c3, .slice a4 n4 c4]) := r5.out.call hbp
              clear hbp hpm y0 y1 y2 y3 y4 y5 y6 y7 y8
              have y0 := rp.out.cell 0 _ rfl
              have y1 := rp.out.cell 1 _ rfl
              have y2 := rp.out.cell 2 _ rfl
              have y3 := rp.out.cell 3 _ rfl
              have y4 := rp.out.cell 4 _ rfl
              have y5 := rp.out.cell 5 _ rfl
              have y6 := rp.out.cell 6 _ rfl
              have y7 := rp.out.cell 7 _ rfl
              have y8 := rp.out.cell 8 _ rfl
              by_cases hpl : (pn : Int) ≤ l
              ·go_wp2_with (first | (go_at_call 96; refine (fH.out _ _).mono ?_; rintro e wq ⟨rfl, hwq⟩; subst hwq) | (go_at_call 177; refine (qq6H.out _ rp.out.hb).mono ?_; rintro e wc ⟨rfl, hbc⟩))
               go_ret
               exact ⟨by rw [← hRH.out]; simp [hn, hst, hsg, g1s, g64, g4, g68, hpl], below_on2 rp.out.hb hbc⟩
              ·go_wp2_with (first | (go_at_call 96; refine (fH.out _ _).mono ?_; rintro e wq ⟨rfl, hwq⟩; subst hwq))
               go_ret
               exact ⟨by rw [← hRH.out]; simp [hn, hst, hsg, g1s, g64, g4, g68]; intro hc; omega, rp.out.hb⟩
            ·go_wp2_with (first | (go_at_call 96; refine (fH.out _ _).mono ?_; rintro e wq ⟨rfl, hwq⟩; subst hwq))
             all_goals (
              go_ret
              refine ⟨?_, r5.out.hb⟩
              go_light
              rw [← hRH.out]
              refine ret_bool ?_
              first
               | rw [show sumZ n1 n2 n3 n4 = true from decide_eq_true (by omega)]
               | rw [show sumZ n1 n2 n3 n4 = false from decide_eq_false (by omega)]
              simp_all)
           ·cases g107 : hasB f 107
            ·cases g68 : hasB f 68
             ·cases g1 : hasB f 1
              ·rw [g1s] at g1; cases g1
              ·go_wp2_with (first | (go_at_call 96; refine (fH.out _ _).mono ?_; rintro e wq ⟨rfl, hwq⟩; subst hwq) | fail)
               refine (parH.out _).mono ?_
               rintro e wp ⟨⟨pa, pc, rfl, hpm⟩, hbp⟩
               have rp : Hid (Rec1 w wp [.string N, .string S, .int .i64 f, .int .i64 k, .int .i64 l, .slice a1 n1 c1, .slice a2 n2 c2, .slice a3 n3 c3, .slice a4 n4 c4]) := r5.out.call hbp
               clear hbp hpm y0 y1 y2 y3 y4 y5 y6 y7 y8
               have y0 := rp.out.cell 0 _ rfl
               have y1 := rp.out.cell 1 _ rfl
               have y2 := rp.out.cell 2 _ rfl
               have y3 := rp.out.cell 3 _ rfl
               have y4 := rp.out.cell 4 _ rfl
               have y5 := rp.out.cell 5 _ rfl
               have y6 := rp.out.cell 6 _ rfl
               have y7 := rp.out.cell 7 _ rfl
               have y8 := rp.out.cell 8 _ rfl
               by_cases hpl : (pn : Int) ≤ l
               ·go_wp2_with (first | (go_at_call 96; refine (fH.out _ _).mono ?_; rintro e wq ⟨rfl, hwq⟩; subst hwq) | (go_at_call 177; refine (qq6H.out _ rp.out.hb).mono ?_; rintro e wc ⟨rfl, hbc⟩))
                go_ret
                exact ⟨by rw [← hRH.out]; simp [hn, hst, hsg, g1s, g64, g4, g107, g68, hpl], below_on2 rp.out.hb hbc⟩
               ·go_wp2_with (first | (go_at_call 96; refine (fH.out _ _).mono ?_; rintro e wq ⟨rfl, hwq⟩; subst hwq))
                go_ret
                exact ⟨by rw [← hRH.out]; simp [hn, hst, hsg, g1s, g64, g4, g107, g68]; intro hc; omega, rp.out.hb⟩
             ·go_wp2_with (first | (go_at_call 96; refine (fH.out _ _).mono ?_; rintro e wq ⟨rfl, hwq⟩; subst hwq))
              all_goals (
               go_ret
               refine ⟨?_, r5.out.hb⟩
               go_light
               rw [← hRH.out]
               refine ret_bool ?_
               first
                | rw [show sumZ n1 n2 n3 n4 = true from decide_eq_true (by omega)]
                | rw [show sumZ n1 n2 n3 n4 = false from decide_eq_false (by omega)]
               simp_all)
            ·go_wp2_with (first | (go_at_call 96; refine (fH.out _ _).mono ?_; rintro e wq ⟨rfl, hwq⟩; subst hwq))
             go_ret
             exact ⟨by rw [← hRH.out]; simp [hn, hst, hsg, g1s, g64, g4, g107], r5.out.hb⟩
          ·go_wp2_with (first | (go_at_call 96; refine (fH.out _ _).mono ?_; rintro e wq ⟨rfl, hwq⟩; subst hwq))
           go_ret
           exact ⟨by rw [← hRH.out]; simp [hn, hst, hsg, g1s, g64], r5.out.hb⟩
        ·go_wp2_with (first | (go_at_call 96; refine (fH.out _ _).mono ?_; rintro e wq ⟨rfl, hwq⟩; subst hwq))
         go_ret
         exact ⟨by rw [← hRH.out]; simp [hn, hst, hsg], r5.out.hb⟩
      ·have hst : (N.toList == [115, 116, 97, 114, 116]) = false := by rw [eq_of_beq hn]; rfl
       go_wp2_with fail
       refine (resH.out _).mono ?_
       rintro e w6 ⟨rfl, hb6⟩
       have r6 : Hid (Rec1 w w6 [.string N, .string S, .int .i64 f, .int .i64 k, .int .i64 l, .slice a1 n1 c1, .slice a2 n2 c2, .slice a3 n3 c3, .slice a4 n4 c4]) := r5.out.call hb6
       clear hb6 y0 y1 y2 y3 y4 y5 y6 y7 y8
       have y0 := r6.out.cell 0 _ rfl
       have y1 := r6.out.cell 1 _ rfl
       have y2 := r6.out.cell 2 _ rfl
       have y3 := r6.out.cell 3 _ rfl
       have y4 := r6.out.cell 4 _ rfl
       have y5 := r6.out.cell 5 _ rfl
       have y6 := r6.out.cell 6 _ rfl
       have y7 := r6.out.cell 7 _ rfl
       have y8 := r6.out.cell 8 _ rfl
       by_cases hz : Z.toList = [86]
       ·cases g103 : hasB f 103
        ·skip
         cases g4 : hasB f 4
         ·cases g68 : hasB f 68
          ·cases g1 : hasB f 1
           ·go_wp2_with (first | (go_at_call 96; refine (fH.out _ _).mono ?_; rintro e wq ⟨rfl, hwq⟩; subst hwq) | fail)
            refine (parH.out _).mono ?_
            rintro e wp ⟨⟨pa, pc, rfl, hpm⟩, hbp⟩
            have rp : Hid (Rec1 w wp [.string N, .string S, .int .i64 f, .int .i64 k, .int .i64 l, .slice a1 n1 c1, .slice a2 n2 c2, .slice a3 n3 c3, .slice a4 n4 c4]) := r6.out.call hbp
            clear hbp hpm y0 y1 y2 y3 y4 y5 y6 y7 y8
            have y0 := rp.out.cell 0 _ rfl
            have y1 := rp.out.cell 1 _ rfl
            have y2 := rp.out.cell 2 _ rfl
            have y3 := rp.out.cell 3 _ rfl
            have y4 := rp.out.cell 4 _ rfl
            have y5 := rp.out.cell 5 _ rfl
            have y6 := rp.out.cell 6 _ rfl
            have y7 := rp.out.cell 7 _ rfl
            have y8 := rp.out.cell 8 _ rfl
            by_cases hpl : ((pn : Int) + 1) ≤ l
            ·go_wp2_with (first | (go_at_call 96; refine (fH.out _ _).mono ?_; rintro e wq ⟨rfl, hwq⟩; subst hwq) | (go_at_call 177; refine (qq6H.out _ rp.out.hb).mono ?_; rintro e wc ⟨rfl, hbc⟩))
             go_ret
             exact ⟨by rw [← hRH.out]; simp [hn, hst, hz, g103, g4, g68, g1, hpl], below_on2 rp.out.hb hbc⟩
            ·go_wp2_with (first | (go_at_call 96; refine (fH.out _ _).mono ?_; rintro e wq ⟨rfl, hwq⟩; subst hwq))
             go_ret
             exact ⟨by rw [← hRH.out]; simp [hn, hst, hz, g103, g4, g68, g1]; intro hc; omega, rp.out.hb⟩
           ·go_wp2_with (first | (go_at_call 96; refine (fH.out _ _).mono ?_; rintro e wq ⟨rfl, hwq⟩; subst hwq) | fail)
            refine (parH.out _).mono ?_
            rintro e wp ⟨⟨pa, pc, rfl, hpm⟩, hbp⟩
            have rp : Hid (Rec1 w wp [.string N, .string S, .int .i64 f, .int .i64 k, .int .i64 l, .slice a1 n1 c1, .slice a2 n2 c2, .slice a3 n3 c3, .slice a4 n4 c4]) := r6.out.call hbp
            clear hbp hpm y0 y1 y2 y3 y4 y5 y6 y7 y8
            have y0 := rp.out.cell 0 _ rfl
            have y1 := rp.out.cell 1 _ rfl
            have y2 := rp.out.cell 2 _ rfl
            have y3 := rp.out.cell 3 _ rfl
            have y4 := rp.out.cell 4 _ rfl
            have y5 := rp.out.cell 5 _ rfl
            have y6 := rp.out.cell 6 _ rfl
            have y7 := rp.out.cell 7 _ rfl
            have y8 := rp.out.cell 8 _ rfl
            by_cases hpl : (pn : Int) ≤ l
            ·go_wp2_with (first | (go_at_call 96; refine (fH.out _ _).mono ?_; rintro e wq ⟨rfl, hwq⟩; subst hwq) | (go_at_call 177; refine (qq6H.out _ rp.out.hb).mono ?_; rintro e wc ⟨rfl, hbc⟩))
             go_ret
             exact ⟨by rw [← hRH.out]; simp [hn, hst, hz, g103, g4, g68, g1, hpl], below_on2 rp.out.hb hbc⟩
            ·go_wp2_with (first | (go_at_call 96; refine (fH.out _ _).mono ?_; rintro e wq ⟨rfl, hwq⟩; subst hwq))
             go_ret
             exact ⟨by rw [← hRH.out]; simp [hn, hst, hz, g103, g4, g68, g1]; intro hc; omega, rp.out.hb⟩
          ·go_wp2_with (first | (go_at_call 96; refine (fH.out _ _).mono ?_; rintro e wq ⟨rfl, hwq⟩; subst hwq))
           all_goals (
            go_ret
            refine ⟨?_, r6.out.hb⟩
            go_light
            rw [← hRH.out]
            refine ret_bool ?_
            first
             | rw [show sumZ n1 n2 n3 n4 = true from decide_eq_true (by omega)]
             | rw [show sumZ n1 n2 n3 n4 = false from decide_eq_false (by omega)]
            simp_all)
         ·cases g107 : hasB f 107
          ·cases g68 : hasB f 68
           ·cases g1 : hasB f 1
            ·go_wp2_with (first | (go_at_call 96; refine (fH.out _ _).mono ?_; rintro e wq ⟨rfl, hwq⟩; subst hwq) | fail)
             refine (parH.out _).mono ?_
             rintro e wp ⟨⟨pa, pc, rfl, hpm⟩, hbp⟩
             have rp : Hid (Rec1 w wp [.string N, .string S, .int .i64 f, .int .i64 k, .int .i64 l, .slice a1 n1 c1, .slice a2 n2 c2, .slice a3 n3 c3, .slice a4 n4 c4]) := r6.out.call hbp
             clear hbp hpm y0 y1 y2 y3 y4 y5 y6 y7 y8
             have y0 := rp.out.cell 0 _ rfl
             have y1 := rp.out.cell 1 _ rfl
             have y2 := rp.out.cell 2 _ rfl
             have y3 := rp.out.cell 3 _ rfl
             have y4 := rp.out.cell 4 _ rfl
             have y5 := rp.out.cell 5 _ rfl
             have y6 := rp.out.cell 6 _ rfl
             have y7 := rp.out.cell 7 _ rfl
             have y8 := rp.out.cell 8 _ rfl
             by_cases hpl : ((pn : Int) + 1) ≤ l
             ·go_wp2_with (first | (go_at_call 96; refine (fH.out _ _).mono ?_; rintro e wq ⟨rfl, hwq⟩; subst hwq) | (go_at_call 177; refine (qq6H.out _ rp.out.hb).mono ?_; rintro e wc ⟨rfl, hbc⟩))
              go_ret
              exact ⟨by rw [← hRH.out]; simp [hn, hst, hz, g103, g4, g107, g68, g1, hpl], below_on2 rp.out.hb hbc⟩
             ·go_wp2_with (first | (go_at_call 96; refine (fH.out _ _).mono ?_; rintro e wq ⟨rfl, hwq⟩; subst hwq))
              go_ret
              exact ⟨by rw [← hRH.out]; simp [hn, hst, hz, g103, g4, g107, g68, g1]; intro hc; omega, rp.out.hb⟩
            ·go_wp2_with (first | (go_at_call 96; refine (fH.out _ _).mono ?_; rintro e wq ⟨rfl, hwq⟩; subst hwq) | fail)
             refine (parH.out _).mono ?_
             rintro e wp ⟨⟨pa, pc, rfl, hpm⟩, hbp⟩
             have rp : Hid (Rec1 w wp [.string N, .string S, .int .i64 f, .int .i64 k, .int .i64 l, .slice a1 n1 c1, .slice a2 n2 c2, .slice a3 n3 c3, .slice a4 n4 c4]) := r6.out.call hbp
             clear hbp hpm y0 y1 y2 y3 y4 y5 y6 y7 y8
             have y0 := rp.out.cell 0 _ rfl
             have y1 := rp.out.cell 1 _ rfl
             have y2 := rp.out.cell 2 _ rfl
             have y3 := rp.out.cell 3 _ rfl
             have y4 := rp.out.cell 4 _ rfl
             have y5 := rp.out.cell 5 _ rfl
             have y6 := rp.out.cell 6 _ rfl
             have y7 := rp.out.cell 7 _ rfl
             have y8 := rp.out.cell 8 _ rfl
             by_cases hpl : (pn : Int) ≤ l
             ·go_wp2_with (first | (go_at_call 96; refine (fH.out _ _).mono ?_; rintro e wq ⟨rfl, hwq⟩; subst hwq) | (go_at_call 177; refine (qq6H.out _ rp.out.hb).mono ?_; rintro e wc ⟨rfl, hbc⟩))
              go_ret
              exact ⟨by rw [← hRH.out]; simp [hn, hst, hz, g103, g4, g107, g68, g1, hpl], below_on2 rp.out.hb hbc⟩
             ·go_wp2_with (first | (go_at_call 96; refine (fH.out _ _).mono ?_; rintro e wq ⟨rfl, hwq⟩; subst hwq))
              go_ret
              exact ⟨by rw [← hRH.out]; simp [hn, hst, hz, g103, g4, g107, g68, g1]; intro hc; omega, rp.out.hb⟩
           ·go_wp2_with (first | (go_at_call 96; refine (fH.out _ _).mono ?_; rintro e wq ⟨rfl, hwq⟩; subst hwq))
            all_goals (
             go_ret
             refine ⟨?_, r6.out.hb⟩
             go_light
             rw [← hRH.out]
             refine ret_bool ?_
             first
              | rw [show sumZ n1 n2 n3 n4 = true from decide_eq_true (by omega)]
              | rw [show sumZ n1 n2 n3 n4 = false from decide_eq_false (by omega)]
             simp_all)
          ·go_wp2_with (first | (go_at_call 96; refine (fH.out _ _).mono ?_; rintro e wq ⟨rfl, hwq⟩; subst hwq))
           go_ret
           exact ⟨by rw [← hRH.out]; simp [hn, hst, hz, g103, g4, g107], r6.out.hb⟩
        ·go_wp2_with (first | (go_at_call 96; refine (fH.out _ _).mono ?_; rintro e wq ⟨rfl, hwq⟩; subst hwq))
         go_ret
         exact ⟨by rw [← hRH.out]; simp [hn, hz, g103], r6.out.hb⟩
       ·go_wp2_with (first | (go_at_call 96; refine (fH.out _ _).mono ?_; rintro e wq ⟨rfl, hwq⟩; subst hwq))
        go_ret
        exact ⟨by rw [← hRH.out]; simp [hn, hz], r6.out.hb⟩
theorem l2Shapes_calls (v : Value) (xs : List ByteArray) (most : Int) (w : World) (lo hi : Nat) (hh : hi ≤ w.heap.size) (ht : ListAt StrR 1 true lo hi w v xs) (hn : xs.length ≤ 1048576) (hs : ∀ s ∈ xs, s.size ≤ 1048576) :
  Calls Tryz.prog 191 #[v, .int .i64 most] w fun e w' => e = .returned (.bool (shapesB xs && decide ((xs.length : Int) ≤ most))) ∧ Below w.heap.size w w' := by
 obtain ⟨a, c, rfl⟩ := ht.form
 have htH : Hid (∀ W, Below w.heap.size w W → ListAt StrR 1 true lo hi W (.slice a xs.length c) xs) := fun W hW => ht.kept StrR.stable (Nat.le_refl _) (Nat.le_refl _) ((Same.below hW).mono (Nat.zero_le _) hh)
 have shH : Hid (∀ s ∈ xs, ∀ W, Calls Tryz.prog 208 #[.string s] W fun e w' => e = .returned (.bool (Sh.shapeL s.data.toList)) ∧ Below W.heap.size W w') := fun s hx W => Sh.specShape_calls s W (hs s hx)
 obtain ⟨R, hR⟩ : ∃ R, (shapesB xs && decide ((xs.length : Int) ≤ most)) = R := ⟨_, rfl⟩
 rw [hR]
 have hRH : Hid ((shapesB xs && decide ((xs.length : Int) ≤ most)) = R) := hR
 clear hR ht hh hs
 go_enter Tryz.func191, Tryz.ntmps191
 go_wp2
 go_loopw [5] (fun i wr => ∃ m : Nat, m ≤ xs.length ∧ i = .int .i64 m ∧ Hid ((shapesB (xs.drop m) && decide ((xs.length : Int) ≤ most)) = R) ∧ Hid (Below w.heap.size w wr)) (fun i _ => xs.length - (intOf i).toNat)
 case atStart => exact ⟨0, Nat.zero_le _, rfl, hRH.out, Below.refl _ _⟩
 case round =>
  obtain ⟨m, hm, rfl, hz, hB⟩ := hrel
  by_cases hlt : m < xs.length
  ·obtain ⟨b, off, row, rfl, hbb, hrl, hrr, hrx⟩ := (htH.out wr hB.out).at m hlt
   have hrow : row = [.string xs[m]] := hrx
   have hcell : wr.cell? ⟨b, off + m, none⟩ = some (.string xs[m]) := by simpa using hrr 0 (.string xs[m]) (by rw [hrow]; rfl)
   have hlt' : (m : Int) < (xs.length : Int) := by omega
   have hstep : Hid (R = ((Sh.shapeL xs[m].data.toList && shapesB (xs.drop (m + 1))) && decide ((xs.length : Int) ≤ most))) := by
    have := hz.out
    rw [List.drop_eq_getElem_cons hlt] at this
    exact this.symm
   have hc : Hid (Calls Tryz.prog 208 #[.string xs[m]] wr fun e w' => e = .returned (.bool (Sh.shapeL xs[m].data.toList)) ∧ Below wr.heap.size wr w') := shH.out xs[m] (List.getElem_mem hlt) wr
   obtain ⟨s, hs⟩ : ∃ s, s = xs[m] := ⟨_, rfl⟩
   rw [← hs] at hcell hstep hc
   clear hrr hrl hrx hrow hs
   obtain ⟨sb, hsb⟩ : ∃ sb, Sh.shapeL s.data.toList = sb := ⟨_, rfl⟩
   rw [hsb] at hstep hc
   clear hsb
   cases sb with
   | false =>
    go_wp2_with (go_at_call 208; refine hc.out.mono ?_; rintro e w2 ⟨rfl, hb2⟩)
    go_ret
    exact ⟨by rw [hstep.out]; rfl, below_on2 hB.out hb2⟩
   | true =>
    go_wp2_with (go_at_call 208; refine hc.out.mono ?_; rintro e w2 ⟨rfl, hb2⟩)
    go_roundw
    case rel => exact ⟨m + 1, by omega, by go_num, (show _ = R by rw [hstep.out]; rfl), below_on2 hB.out hb2⟩
    case measure => simp [intOf]; omega
  ·have hend := hz.out
   rw [List.drop_eq_nil_of_le (by omega)] at hend
   have hR2 : Hid ((true && decide ((xs.length : Int) ≤ most)) = R) := hend
   clear hend hz
   go_wp2
   go_ret
   exact ⟨by rw [← hR2.out]; simp, hB.out⟩
theorem cell_last (w : World) (row : Array Value) (t : TypeId) (v : Value) (i : Nat) (h : row[i]? = some v) : (w.alloc (.cells row t)).cell? ⟨w.heap.size, i, none⟩ = some v := by
 have h0 : (w.alloc (.cells row t)).heap[w.heap.size]? = some (.cells row t (0, 0)) := heap_alloc_new w _
 have := rangeAt_heap h0 i v (by simpa using h)
 simpa using this
theorem nil_beq (l : List UInt8) : (l == []) = l.isEmpty := by cases l <;> rfl
def handS (x : HandL) (size : Int) : Bool := !(decide (x.fr < 0) || (decide (x.to ≤ x.fr) || (decide (size < x.to) || (!betw x.at' 0 (size - 1) || (!(x.ty.toList == []) && !nameOk x.ty.data.toList)))))
def frameS (size locals stack last : Int) (x : FrameL) : Bool :=
 !(decide (x.at' ≤ last) || (decide (size ≤ x.at') || (((x.locs.length : Int) != locals) || (!(shapesB x.locs && decide ((x.locs.length : Int) ≤ locals)) || !(shapesB x.stk && decide ((x.stk.length : Int) ≤ stack))))))
def framesS (size locals stack : Int) : Int → List FrameL → Bool
 | _, [] => true
 | last, x :: r => frameS size locals stack last x && framesS size locals stack x.at' r
def codeS (size locals stack : Int) (xs : List InsL) (hs : List HandL) (fs : List FrameL) (ls : List LineL) : Bool :=
 !(decide (size < 1) || (decide (400 < size) || (decide ((20 : Int) < hs.length) || (decide ((400 : Int) < fs.length) || decide ((400 : Int) < ls.length))))) && (xs.all (insL size locals) && (hs.all (fun x => handS x size) && (framesS size locals stack (-1) fs && linesB size (-1) ls)))
theorem l2Code_calls (N S : ByteArray) (f k l : Int) (a1 : Option Addr) (n1 c1 : Nat) (a2 : Option Addr) (n2 c2 : Nat) (a3 : Option Addr) (n3 c3 : Nat) (a4 : Option Addr) (n4 c4 : Nat) (w : World) (xs : List InsL) (hs : List HandL) (fs : List FrameL) (ls : List LineL) (lo hi : Nat) (hh : hi ≤ w.heap.size)
  (t1 : ListAt InsR 9 true lo hi w (.slice a1 n1 c1) xs) (t2 : ListAt HandR 4 true lo hi w (.slice a2 n2 c2) hs) (t3 : ListAt FrameR 3 true lo hi w (.slice a3 n3 c3) fs) (t4 : ListAt LineR 2 true lo hi w (.slice a4 n4 c4) ls)
  (e1 : xs.length = n1) (e2 : hs.length = n2) (e3 : fs.length = n3) (e4 : ls.length = n4) (h1 : n1 ≤ 1048576) (h2 : n2 ≤ 1048576) (h3 : n3 ≤ 1048576) (h4 : n4 ≤ 1048576)
  (y1 : ∀ y ∈ xs, y.small) (y2 : ∀ y ∈ hs, y.small) (y3 : ∀ y ∈ fs, y.small) :
  Calls Tryz.prog 177 #[methV N S f k l a1 n1 c1 a2 n2 c2 a3 n3 c3 a4 n4 c4] w fun e w' => e = .returned (.bool (codeS n1 l k xs hs fs ls)) ∧ Below w.heap.size w w' := by
 have iH : Hid (∀ x ∈ xs, ∀ (W : World) (v : Value), Below w.heap.size w W → ListAt IntR 1 true lo hi W v x.zs → Calls Tryz.prog 190 #[insV x.o x.k x.a x.b x.T x.C x.N x.Y v, .int .i64 n1, .int .i64 l] W fun e w' => e = .returned (.bool (insL n1 l x)) ∧ Below W.heap.size W w') := fun x hx W v hW ht => by
  obtain ⟨hT, hC, hN, hY, hz⟩ := y1 x hx
  exact specIns_calls x.o x.k x.a x.b n1 l x.T x.C x.N x.Y v x.zs W (ht.tab (Nat.le_trans hh hW.size)) hz hT hC hN hY
 have nameH : Hid (∀ x ∈ hs, ∀ W, Calls Tryz.prog 90 #[.string x.ty] W fun e w' => e = .returned (.bool (nameOk x.ty.data.toList)) ∧ w' = W) := fun x hx W => specName_calls x.ty W (by have : x.ty.size ≤ 1048576 := y2 x hx; omega)
 have btH : Hid (∀ a b c W, Calls Tryz.prog 174 #[.int .i64 a, .int .i64 b, .int .i64 c] W fun e w' => e = .returned (.bool (betw a b c)) ∧ w' = W) := fun a b c W => l2Between_calls a b c W
 have shH : Hid (∀ x ∈ fs, ∀ (W : World) (v : Value) (most : Int), Below w.heap.size w W → (ListAt StrR 1 true lo hi W v x.locs → Calls Tryz.prog 191 #[v, .int .i64 most] W fun e w' => e = .returned (.bool (shapesB x.locs && decide ((x.locs.length : Int) ≤ most))) ∧ Below W.heap.size W w') ∧ (ListAt StrR 1 true lo hi W v x.stk → Calls Tryz.prog 191 #[v, .int .i64 most] W fun e w' => e = .returned (.bool (shapesB x.stk && decide ((x.stk.length : Int) ≤ most))) ∧ Below W.heap.size W w')) := fun x hx W v most hW =>
  ⟨fun ht => l2Shapes_calls v x.locs most W lo hi (Nat.le_trans hh hW.size) ht (y3 x hx).1 (y3 x hx).2.2.1, fun ht => l2Shapes_calls v x.stk most W lo hi (Nat.le_trans hh hW.size) ht (y3 x hx).2.1 (y3 x hx).2.2.2⟩
 have t1H : Hid (∀ W, Below w.heap.size w W → ListAt InsR 9 true lo hi W (.slice a1 n1 c1) xs) := fun W hW => t1.kept InsR.stable (Nat.le_refl _) (Nat.le_refl _) ((Same.below hW).mono (Nat.zero_le _) hh)
 have t2H : Hid (∀ W, Below w.heap.size w W → ListAt HandR 4 true lo hi W (.slice a2 n2 c2) hs) := fun W hW => t2.kept HandR.stable (Nat.le_refl _) (Nat.le_refl _) ((Same.below hW).mono (Nat.zero_le _) hh)
 have t3H : Hid (∀ W, Below w.heap.size w W → ListAt FrameR 3 true lo hi W (.slice a3 n3 c3) fs) := fun W hW => t3.kept FrameR.stable (Nat.le_refl _) (Nat.le_refl _) ((Same.below hW).mono (Nat.zero_le _) hh)
 have t4H : Hid (∀ W, Below w.heap.size w W → ListAt LineR 2 true lo hi W (.slice a4 n4 c4) ls) := fun W hW => t4.kept LineR.stable (Nat.le_refl _) (Nat.le_refl _) ((Same.below hW).mono (Nat.zero_le _) hh)
 have ysH : Hid (∀ y ∈ fs, y.small) := y3
 have hhH : Hid (hi ≤ w.heap.size) := hh
 have i94 : Hid ((Tryz.prog.info? 110).map (·.size) = some 9) := by show (Tryz.prog.info? 110).map (·.size) = some 9; kernel_rfl
 have i95 : Hid ((Tryz.prog.info? 124).map (·.size) = some 4) := by show (Tryz.prog.info? 124).map (·.size) = some 4; kernel_rfl
 have i96 : Hid ((Tryz.prog.info? 126).map (·.size) = some 3) := by show (Tryz.prog.info? 126).map (·.size) = some 3; kernel_rfl
 have i99 : Hid ((Tryz.prog.info? 128).map (·.size) = some 2) := by show (Tryz.prog.info? 128).map (·.size) = some 2; kernel_rfl
 obtain ⟨R, hR⟩ : ∃ R, codeS n1 l k xs hs fs ls = R := ⟨_, rfl⟩
 rw [hR]
 unfold codeS at hR
 rw [e2, e3, e4] at hR
 have e1H : Hid (xs.length = n1) := e1
 have e2H : Hid (hs.length = n2) := e2
 have e3H : Hid (fs.length = n3) := e3
 have e4H : Hid (ls.length = n4) := e4
 have hRH : Hid (_ = R) := hR
 clear hR t1 t2 t3 t4 e1 e2 e3 e4 y1 y2 y3 hh
 by_cases g0 : (n1 : Int) < 1
 ·go_enter Tryz.func177, Tryz.ntmps177
  go_wp2
  go_ret
  exact ⟨by rw [← hRH.out, decide_eq_true (show (n1 : Int) < 1 by omega)]; simp, below_1 _ _⟩
 by_cases g1 : (400 : Int) < n1
 ·go_enter Tryz.func177, Tryz.ntmps177
  go_wp2
  go_ret
  exact ⟨by rw [← hRH.out, decide_eq_true g1]; simp, below_1 _ _⟩
 by_cases g2 : (20 : Int) < n2
 ·go_enter Tryz.func177, Tryz.ntmps177
  go_wp2
  go_ret
  exact ⟨by rw [← hRH.out, decide_eq_true g2]; simp, below_1 _ _⟩
 by_cases g3 : (400 : Int) < n3
 ·go_enter Tryz.func177, Tryz.ntmps177
  go_wp2
  go_ret
  exact ⟨by rw [← hRH.out, decide_eq_true g3]; simp, below_1 _ _⟩
 by_cases g4 : (400 : Int) < n4
 ·go_enter Tryz.func177, Tryz.ntmps177
  go_wp2
  go_ret
  exact ⟨by rw [← hRH.out, decide_eq_true g4]; simp, below_1 _ _⟩
 have hR1 : Hid ((xs.all (insL n1 l) && (hs.all (fun x => handS x n1) && (framesS n1 l k (-1) fs && linesB n1 (-1) ls))) = R) := by
  have := hRH.out
  rw [decide_eq_false g0, decide_eq_false g1, decide_eq_false g2, decide_eq_false g3, decide_eq_false g4] at this
  show _ = R
  simpa using this
 clear hRH
 go_enter Tryz.func177, Tryz.ntmps177
 go_wp2
 go_loopw [4] (fun i wr => ∃ m : Nat, m ≤ n1 ∧ i = .int .i64 m ∧ Hid (((xs.drop m).all (insL n1 l) && (hs.all (fun x => handS x n1) && (framesS n1 l k (-1) fs && linesB n1 (-1) ls))) = R) ∧ Hid (Rec1 w wr [.string N, .string S, .int .i64 f, .int .i64 k, .int .i64 l, .slice a1 n1 c1, .slice a2 n2 c2, .slice a3 n3 c3, .slice a4 n4 c4])) (fun i _ => n1 - (intOf i).toNat)
 case atStart => exact ⟨0, Nat.zero_le _, rfl, hR1.out, Rec1.start rfl⟩
 case round =>
  obtain ⟨m, hm, rfl, hz, hB⟩ := hrel
  have y5 := hB.out.cell 5 _ rfl
  by_cases hlt : m < n1
  ·have hltx : m < xs.length := by rw [e1H.out]; exact hlt
   obtain ⟨b, off, row, rfl, hbb, hrl, hrr, hrx⟩ := (t1H.out wr hB.out.hb).at m hltx
   have hlt' : (m : Int) < (n1 : Int) := by omega
   have hmem := List.getElem_mem hltx
   have hdr := List.drop_eq_getElem_cons hltx
   obtain ⟨x, hxm⟩ : ∃ x, x = xs[m] := ⟨_, rfl⟩
   rw [← hxm] at hrx hdr hmem
   obtain ⟨v, rfl, hv⟩ := hrx
   have hc : Hid (∀ W, Below wr.heap.size wr W → Calls Tryz.prog 190 #[insV x.o x.k x.a x.b x.T x.C x.N x.Y v, .int .i64 n1, .int .i64 l] W fun e w' => e = .returned (.bool (insL n1 l x)) ∧ Below W.heap.size W w') := fun W hW =>
    iH.out x hmem W v (below_on2 hB.out.hb hW) (hv.kept IntR.stable (Nat.le_refl _) (Nat.le_refl _) ((Same.below hW).mono (Nat.zero_le _) (by have := hhH.out; have := hB.out.hb.size; omega)))
   have hstep : Hid (R = ((insL n1 l x && (xs.drop (m + 1)).all (insL n1 l)) && (hs.all (fun x => handS x n1) && (framesS n1 l k (-1) fs && linesB n1 (-1) ls)))) := by
    have := hz.out
    rw [hdr] at this
    exact this.symm
   obtain ⟨v1, v2, rfl⟩ := hv.form
   generalize x.zs.length = zn at *
   obtain ⟨ib, hib⟩ : ∃ ib, insL n1 l x = ib := ⟨_, rfl⟩
   rw [hib] at hstep hc
   have hmk : Hid (∀ W, Below wr.heap.size wr W → (Below wr.heap.size wr W ∧ W.cell? ⟨w.heap.size, 5, none⟩ = some (.slice (some ⟨b, off, none⟩) n1 c1) ∧ W.cell? ⟨w.heap.size, 4, none⟩ = some (.int .i64 l) ∧ W.cell? ⟨b, off + m * 9, none⟩ = some (.int .i64 x.o) ∧ W.cell? ⟨b, off + m * 9 + 1, none⟩ = some (.int .i64 x.k) ∧ W.cell? ⟨b, off + m * 9 + 2, none⟩ = some (.int .i64 x.a) ∧ W.cell? ⟨b, off + m * 9 + 3, none⟩ = some (.int .i64 x.b) ∧ W.cell? ⟨b, off + m * 9 + 4, none⟩ = some (.string x.T) ∧ W.cell? ⟨b, off + m * 9 + 5, none⟩ = some (.string x.C) ∧ W.cell? ⟨b, off + m * 9 + 6, none⟩ = some (.string x.N) ∧ W.cell? ⟨b, off + m * 9 + 7, none⟩ = some (.string x.Y) ∧ W.cell? ⟨b, off + m * 9 + 8, none⟩ = some (.slice v1 zn v2))) := fun W hW => by
    have rW := hB.out.call hW
    have kp := rangeAt_same (Same.below hW) (Nat.zero_le _) (show b < wr.heap.size by have := hhH.out; have := hB.out.hb.size; omega) hrr
    exact ⟨hW, rW.cell 5 _ rfl, rW.cell 4 _ rfl, kp 0 _ rfl, kp 1 _ rfl, kp 2 _ rfl, kp 3 _ rfl, kp 4 _ rfl, kp 5 _ rfl, kp 6 _ rfl, kp 7 _ rfl, kp 8 _ rfl⟩
   have hS0 := hmk.out wr (Below.refl _ _)
   clear hrr hrl hxm hv hdr hmem hib
   cases ib with
   | false =>
    go_wp2
    go_region_held3 (fun W => Below wr.heap.size wr W ∧ W.cell? ⟨w.heap.size, 5, none⟩ = some (.slice (some ⟨b, off, none⟩) n1 c1) ∧ W.cell? ⟨w.heap.size, 4, none⟩ = some (.int .i64 l) ∧ W.cell? ⟨b, off + m * 9, none⟩ = some (.int .i64 x.o) ∧ W.cell? ⟨b, off + m * 9 + 1, none⟩ = some (.int .i64 x.k) ∧ W.cell? ⟨b, off + m * 9 + 2, none⟩ = some (.int .i64 x.a) ∧ W.cell? ⟨b, off + m * 9 + 3, none⟩ = some (.int .i64 x.b) ∧ W.cell? ⟨b, off + m * 9 + 4, none⟩ = some (.string x.T) ∧ W.cell? ⟨b, off + m * 9 + 5, none⟩ = some (.string x.C) ∧ W.cell? ⟨b, off + m * 9 + 6, none⟩ = some (.string x.N) ∧ W.cell? ⟨b, off + m * 9 + 7, none⟩ = some (.string x.Y) ∧ W.cell? ⟨b, off + m * 9 + 8, none⟩ = some (.slice v1 zn v2)) (first | assumption | exact hmk.out _ (Below.drew (And.left (by assumption))) | exact hmk.out _ (below_on2 (And.left (by assumption)) (by assumption))) (first | (go_at_call 190; refine (hc.out _ (by first | exact Below.refl _ _ | assumption | exact And.left (by assumption))).mono ?_; rintro e w2 ⟨rfl, hb2⟩))
    go_wp2
    go_ret
    exact ⟨by rw [hstep.out]; rfl, below_on2 hB.out.hb (by first | assumption | exact And.left (by assumption))⟩
   | true =>
    go_wp2
    go_region_held3 (fun W => Below wr.heap.size wr W ∧ W.cell? ⟨w.heap.size, 5, none⟩ = some (.slice (some ⟨b, off, none⟩) n1 c1) ∧ W.cell? ⟨w.heap.size, 4, none⟩ = some (.int .i64 l) ∧ W.cell? ⟨b, off + m * 9, none⟩ = some (.int .i64 x.o) ∧ W.cell? ⟨b, off + m * 9 + 1, none⟩ = some (.int .i64 x.k) ∧ W.cell? ⟨b, off + m * 9 + 2, none⟩ = some (.int .i64 x.a) ∧ W.cell? ⟨b, off + m * 9 + 3, none⟩ = some (.int .i64 x.b) ∧ W.cell? ⟨b, off + m * 9 + 4, none⟩ = some (.string x.T) ∧ W.cell? ⟨b, off + m * 9 + 5, none⟩ = some (.string x.C) ∧ W.cell? ⟨b, off + m * 9 + 6, none⟩ = some (.string x.N) ∧ W.cell? ⟨b, off + m * 9 + 7, none⟩ = some (.string x.Y) ∧ W.cell? ⟨b, off + m * 9 + 8, none⟩ = some (.slice v1 zn v2)) (first | assumption | exact hmk.out _ (Below.drew (And.left (by assumption))) | exact hmk.out _ (below_on2 (And.left (by assumption)) (by assumption))) (first | (go_at_call 190; refine (hc.out _ (by first | exact Below.refl _ _ | assumption | exact And.left (by assumption))).mono ?_; rintro e w2 ⟨rfl, hb2⟩))
    go_wp2
    go_roundw
    case rel => exact ⟨m + 1, by omega, by go_num, (show _ = R by rw [hstep.out]; rfl), hB.out.call (by first | assumption | exact And.left (by assumption))⟩
    case measure => simp [intOf]; omega
  ·have hend := hz.out
   rw [List.drop_eq_nil_of_le (by have := e1H.out; omega)] at hend
   have hR2 : Hid ((hs.all (fun x => handS x n1) && (framesS n1 l k (-1) fs && linesB n1 (-1) ls)) = R) := hend
   clear hend hz
   go_wp2
   clear y5
   go_loopw [5] (fun i wr => ∃ m : Nat, m ≤ n2 ∧ i = .int .i64 m ∧ Hid (((hs.drop m).all (fun x => handS x n1) && (framesS n1 l k (-1) fs && linesB n1 (-1) ls)) = R) ∧ Hid (Rec1 w wr [.string N, .string S, .int .i64 f, .int .i64 k, .int .i64 l, .slice a1 n1 c1, .slice a2 n2 c2, .slice a3 n3 c3, .slice a4 n4 c4])) (fun i _ => n2 - (intOf i).toNat)
   case atStart => exact ⟨0, Nat.zero_le _, rfl, hR2.out, hB.out⟩
   case round =>
    clear hB
    obtain ⟨m, hm, rfl, hz, hB⟩ := hrel
    have y6 := hB.out.cell 6 _ rfl
    by_cases hlt : m < n2
    ·have hltx : m < hs.length := by rw [e2H.out]; exact hlt
     obtain ⟨b, off, row, rfl, hbb, hrl, hrr, hrx⟩ := (t2H.out _ hB.out.hb).at m hltx
     have hlt' : (m : Int) < (n2 : Int) := by omega
     have hmem := List.getElem_mem hltx
     have hdr := List.drop_eq_getElem_cons hltx
     obtain ⟨x, hxm⟩ : ∃ x, x = hs[m] := ⟨_, rfl⟩
     rw [← hxm] at hrx hdr hmem
     obtain rfl : row = [.int .i64 x.fr, .int .i64 x.to, .int .i64 x.at', .string x.ty] := hrx
     have hstep : Hid (R = ((handS x n1 && (hs.drop (m + 1)).all (fun x => handS x n1)) && (framesS n1 l k (-1) fs && linesB n1 (-1) ls))) := by
      have := hz.out
      rw [hdr] at this
      exact this.symm
     have nmH : Hid (∀ W, Calls Tryz.prog 90 #[.string x.ty] W fun e w' => e = .returned (.bool (nameOk x.ty.data.toList)) ∧ w' = W) := nameH.out x hmem
     have hhs : Hid (handS x n1 = !(decide (x.fr < 0) || (decide (x.to ≤ x.fr) || (decide ((n1 : Int) < x.to) || (!betw x.at' 0 ((n1 : Int) - 1) || (!(x.ty.toList == []) && !nameOk x.ty.data.toList)))))) := rfl
     generalize nameOk x.ty.data.toList = nm at *
     have d0 := hrr 0 (.int .i64 x.fr) rfl
     have d1 := hrr 1 (.int .i64 x.to) rfl
     have d2 := hrr 2 (.int .i64 x.at') rfl
     have d3 := hrr 3 (.string x.ty) rfl
     rw [Nat.add_zero] at d0
     have hBn := fun ob => hB.out.call (below_1 _ ob)
     have hBnH : Hid (∀ ob, Rec1 w (World.alloc _ ob) _) := hBn
     clear hrr hrl hxm hdr hmem hBn
     by_cases f1 : x.fr < 0
     ·go_wp2
      go_ret
      exact ⟨by rw [hstep.out, hhs.out, decide_eq_true f1]; simp, (hBnH.out _).hb⟩
     by_cases f2 : x.to ≤ x.fr
     ·go_wp2
      go_ret
      exact ⟨by rw [hstep.out, hhs.out, decide_eq_true f2]; simp, (hBnH.out _).hb⟩
     by_cases f3 : (n1 : Int) < x.to
     ·go_wp2
      go_ret
      exact ⟨by rw [hstep.out, hhs.out, decide_eq_true f3]; simp, (hBnH.out _).hb⟩
     cases hbt : betw x.at' 0 ((n1 : Int) - 1) with
     | false =>
      go_wp2_with (first | (go_at_call 174; refine (btH.out _ _ _ _).mono ?_; rintro e wq ⟨rfl, hwq⟩; subst hwq))
      go_ret
      exact ⟨by rw [hstep.out, hhs.out, hbt]; simp, (hBnH.out _).hb⟩
     | true =>
      cases f4 : x.ty.toList.isEmpty with
      | true =>
       have f5 : (x.ty.toList == []) = true := by rw [nil_beq, f4]
       have hst2 : Hid (R = ((hs.drop (m + 1)).all (fun x => handS x n1) && (framesS n1 l k (-1) fs && linesB n1 (-1) ls))) := by
        show R = _
        rw [hstep.out, hhs.out, f5, hbt, decide_eq_false f1, decide_eq_false f2, decide_eq_false f3]; simp
       clear hstep hhs f5
       go_wp2_with (first | (go_at_call 174; refine (btH.out _ _ _ _).mono ?_; rintro e wq ⟨rfl, hwq⟩; subst hwq))
       go_roundw
       case rel => exact ⟨m + 1, by omega, by go_num, hst2.out.symm, hBnH.out _⟩
       case measure => simp [intOf]; omega
      | false =>
       have f5 : (x.ty.toList == []) = false := by rw [nil_beq, f4]
       have hst2 : Hid (R = ((nm && (hs.drop (m + 1)).all (fun x => handS x n1)) && (framesS n1 l k (-1) fs && linesB n1 (-1) ls))) := by
        show R = _
        rw [hstep.out, hhs.out, f5, hbt, decide_eq_false f1, decide_eq_false f2, decide_eq_false f3]; simp
       clear hstep hhs f5
       cases nm with
       | false =>
        go_wp2_with (first | (go_at_call 174; refine (btH.out _ _ _ _).mono ?_; rintro e wq ⟨rfl, hwq⟩; subst hwq) | (go_at_call 90; refine (nmH.out _).mono ?_; rintro e wq ⟨rfl, hwq⟩; subst hwq))
        go_ret
        exact ⟨by rw [hst2.out]; rfl, (hBnH.out _).hb⟩
       | true =>
        go_wp2_with (first | (go_at_call 174; refine (btH.out _ _ _ _).mono ?_; rintro e wq ⟨rfl, hwq⟩; subst hwq) | (go_at_call 90; refine (nmH.out _).mono ?_; rintro e wq ⟨rfl, hwq⟩; subst hwq))
        go_roundw
        case rel => exact ⟨m + 1, by omega, by go_num, (show _ = R by rw [hst2.out]; rfl), hBnH.out _⟩
        case measure => simp [intOf]; omega
    ·have hend := hz.out
     rw [List.drop_eq_nil_of_le (by have := e2H.out; omega)] at hend
     have hR3 : Hid ((framesS n1 l k (-1) fs && linesB n1 (-1) ls) = R) := hend
     clear hend hz
     go_wp2
     clear y6
     go_loopw [7, 8] (fun q i wr => ∃ (m : Nat) (z : Int), m ≤ n3 ∧ q = .int .i64 z ∧ i = .int .i64 m ∧ Hid ((framesS n1 l k z (fs.drop m) && linesB n1 (-1) ls) = R) ∧ Hid (Rec1 w wr [.string N, .string S, .int .i64 f, .int .i64 k, .int .i64 l, .slice a1 n1 c1, .slice a2 n2 c2, .slice a3 n3 c3, .slice a4 n4 c4])) (fun _ i _ => n3 - (intOf i).toNat)
     case atStart => exact ⟨0, -1, Nat.zero_le _, rfl, rfl, hR3.out, hB.out⟩
     case round =>
      rename_i wr3
      clear hB
      obtain ⟨m, z, hm, rfl, rfl, hz, hB⟩ := hrel
      have y7 := hB.out.cell 7 _ rfl
      by_cases hlt : m < n3
      ·have hltx : m < fs.length := by rw [e3H.out]; exact hlt
       obtain ⟨b, off, row, rfl, hbb, hrl, hrr, hrx⟩ := (t3H.out _ hB.out.hb).at m hltx
       have hlt' : (m : Int) < (n3 : Int) := by omega
       have hmem := List.getElem_mem hltx
       have hdr := List.drop_eq_getElem_cons hltx
       obtain ⟨x, hxm⟩ : ∃ x, x = fs[m] := ⟨_, rfl⟩
       rw [← hxm] at hrx hdr hmem
       obtain ⟨p, q, rfl, hp, hq⟩ := hrx
       have hsm := ysH.out x hmem
       have cp : Hid (∀ W, Below _ _ W → Calls Tryz.prog 191 #[p, .int .i64 l] W fun e w' => e = .returned (.bool (shapesB x.locs && decide ((x.locs.length : Int) ≤ l))) ∧ Below W.heap.size W w') := fun W hW =>
        (shH.out x hmem W p l (below_on2 hB.out.hb hW)).1 (hp.kept StrR.stable (Nat.le_refl _) (Nat.le_refl _) ((Same.below hW).mono (Nat.zero_le _) (by have := hhH.out; have := hB.out.hb.size; omega)))
       have cq : Hid (∀ W, Below _ _ W → Calls Tryz.prog 191 #[q, .int .i64 k] W fun e w' => e = .returned (.bool (shapesB x.stk && decide ((x.stk.length : Int) ≤ k))) ∧ Below W.heap.size W w') := fun W hW =>
        (shH.out x hmem W q k (below_on2 hB.out.hb hW)).2 (hq.kept StrR.stable (Nat.le_refl _) (Nat.le_refl _) ((Same.below hW).mono (Nat.zero_le _) (by have := hhH.out; have := hB.out.hb.size; omega)))
       obtain ⟨p1, p2, rfl⟩ := hp.form
       obtain ⟨q1, q2, rfl⟩ := hq.form
       have hs1 : x.locs.length ≤ 1048576 := hsm.1
       have hs2 : x.stk.length ≤ 1048576 := hsm.2.1
       have hstep : Hid (R = ((frameS n1 l k z x && framesS n1 l k x.at' (fs.drop (m + 1))) && linesB n1 (-1) ls)) := by
        have := hz.out
        rw [hdr] at this
        exact this.symm
       unfold frameS at hstep
       generalize (shapesB x.locs && decide ((x.locs.length : Int) ≤ l)) = s1 at *
       generalize (shapesB x.stk && decide ((x.stk.length : Int) ≤ k)) = s2 at *
       generalize x.locs.length = m1 at *
       generalize x.stk.length = m2 at *
       generalize x.at' = xa at *
       have d0 := hrr 0 (.int .i64 xa) rfl
       have d1 := hrr 1 (.slice p1 m1 p2) rfl
       have d2 := hrr 2 (.slice q1 m2 q2) rfl
       rw [Nat.add_zero] at d0
       have hBn := hB.out.call (below_1 _ (.cells #[.int .i64 xa, .slice p1 m1 p2, .slice q1 m2 q2] 126))
       have hBnH : Hid (Rec1 w (World.alloc _ (.cells #[.int .i64 xa, .slice p1 m1 p2, .slice q1 m2 q2] 126)) _) := hBn
       have y4 := hBn.cell 4 _ rfl
       have y3 := hBn.cell 3 _ rfl
       clear hrr hrl hxm hp hq hsm hdr hmem hBn
       by_cases f1 : xa ≤ z
       ·go_wp2
        go_ret
        exact ⟨by rw [hstep.out, decide_eq_true f1]; simp, hBnH.out.hb⟩
       by_cases f2 : (n1 : Int) ≤ xa
       ·go_wp2
        go_ret
        exact ⟨by rw [hstep.out, decide_eq_true f2]; simp, hBnH.out.hb⟩
       rcases Bool.eq_false_or_eq_true ((m1 : Int) != l) with f3 | f3
       ·go_wp2
        go_ret
        exact ⟨by rw [hstep.out, f3]; simp, hBnH.out.hb⟩
       cases s1 with
       | false =>
        go_wp2_with (first | (go_at_call 191; refine (cp.out _ (below_1 _ _)).mono ?_; rintro e w2 ⟨rfl, hb2⟩))
        go_ret
        exact ⟨by rw [hstep.out]; simp, below_on2 hBnH.out.hb hb2⟩
       | true =>
        go_wp2_with fail
        refine (cp.out _ (below_1 _ _)).mono ?_
        rintro e w2 ⟨rfl, hb2⟩
        have z2 := (hb2.cell (p := ⟨_, 2, none⟩) (by simp)).trans (show _ = some (.slice q1 m2 q2) from cell_last _ _ _ _ 2 rfl)
        have z0 := (hb2.cell (p := ⟨_, 0, none⟩) (by simp)).trans (show _ = some (.int .i64 xa) from cell_last _ _ _ _ 0 rfl)
        have r2 : Hid (Rec1 w w2 _) := hBnH.out.call hb2
        have hbw : Hid (Below _ _ w2) := below_on2 (below_1 _ _) hb2
        have y3' := r2.out.cell 3 _ rfl
        clear hb2 y3 y4
        cases s2 with
        | false =>
         go_wp2_with (first | (go_at_call 191; refine (cq.out _ hbw.out).mono ?_; rintro e w3 ⟨rfl, hb3⟩))
         go_ret
         exact ⟨by rw [hstep.out]; simp, below_on2 r2.out.hb hb3⟩
        | true =>
         have hst2 : Hid (R = (framesS n1 l k xa (fs.drop (m + 1)) && linesB n1 (-1) ls)) := by
          show R = _
          rw [hstep.out, f3, decide_eq_false (show ¬ xa ≤ z by omega), decide_eq_false (show ¬ (n1 : Int) ≤ xa by omega)]; simp
         clear hstep
         go_wp2_with fail
         refine (cq.out _ hbw.out).mono ?_
         rintro e w3 ⟨rfl, hb3⟩
         have z0' := (hb3.cell (p := ⟨_, 0, none⟩) (World.block_lt_of_cell? w2 ⟨_, 0, none⟩ z0)).trans z0
         have r3 : Hid (Rec1 w w3 _) := r2.out.call hb3
         clear hb3 z2 z0 y3'
         go_wp2
         go_roundw
         case rel => exact ⟨m + 1, _, by omega, rfl, by go_num, hst2.out.symm, r3⟩
         case measure => simp [intOf]; omega
      ·have hend := hz.out
       rw [List.drop_eq_nil_of_le (by have := e3H.out; omega)] at hend
       have hR4 : Hid (linesB n1 (-1) ls = R) := hend
       clear hend hz
       go_wp2
       clear y7
       go_loopw [7, 10] (fun q i wr => ∃ (m : Nat) (z : Int), m ≤ n4 ∧ q = .int .i64 z ∧ i = .int .i64 m ∧ Hid (linesB n1 z (ls.drop m) = R) ∧ Hid (Rec1 w wr [.string N, .string S, .int .i64 f, .int .i64 k, .int .i64 l, .slice a1 n1 c1, .slice a2 n2 c2, .slice a3 n3 c3, .slice a4 n4 c4])) (fun _ i _ => n4 - (intOf i).toNat)
       case atStart => exact ⟨0, -1, Nat.zero_le _, rfl, rfl, hR4.out, hB.out⟩
       case round =>
        clear hB
        obtain ⟨m, z, hm, rfl, rfl, hz, hB⟩ := hrel
        have y8 := hB.out.cell 8 _ rfl
        by_cases hlt : m < n4
        ·have hltx : m < ls.length := by rw [e4H.out]; exact hlt
         obtain ⟨b, off, row, rfl, hbb, hrl, hrr, hrx⟩ := (t4H.out _ hB.out.hb).at m hltx
         have hlt' : (m : Int) < (n4 : Int) := by omega
         have hdr := List.drop_eq_getElem_cons hltx
         obtain ⟨x, hxm⟩ : ∃ x, x = ls[m] := ⟨_, rfl⟩
         rw [← hxm] at hrx hdr
         obtain rfl : row = [.int .i64 x.at', .int .i64 x.n] := hrx
         have hstep : Hid (R = (!(decide (x.at' ≤ z) || decide ((n1 : Int) ≤ x.at') || !betw x.n 1 1000000) && linesB n1 x.at' (ls.drop (m + 1)))) := by
          have := hz.out
          rw [hdr] at this
          exact this.symm
         have d0 := hrr 0 (.int .i64 x.at') rfl
         have d1 := hrr 1 (.int .i64 x.n) rfl
         rw [Nat.add_zero] at d0
         have hBn := hB.out.call (below_1 _ (.cells #[.int .i64 x.at', .int .i64 x.n] 128))
         have hBnH : Hid (Rec1 w (World.alloc _ (.cells #[.int .i64 x.at', .int .i64 x.n] 128)) _) := hBn
         clear hrr hrl hxm hdr hBn
         by_cases f1 : x.at' ≤ z
         ·go_wp2
          go_ret
          exact ⟨by rw [hstep.out, decide_eq_true f1]; simp, hBnH.out.hb⟩
         by_cases f2 : (n1 : Int) ≤ x.at'
         ·go_wp2
          go_ret
          exact ⟨by rw [hstep.out, decide_eq_true f2]; simp, hBnH.out.hb⟩
         cases hbt : betw x.n 1 1000000 with
         | false =>
          go_wp2_with (first | (go_at_call 174; refine (btH.out _ _ _ _).mono ?_; rintro e wq ⟨rfl, hwq⟩; subst hwq))
          go_ret
          exact ⟨by rw [hstep.out, hbt]; simp, hBnH.out.hb⟩
         | true =>
          have hst2 : Hid (R = linesB n1 x.at' (ls.drop (m + 1))) := by
           show R = _
           rw [hstep.out, hbt, decide_eq_false f1, decide_eq_false f2]; simp
          clear hstep
          go_wp2_with (first | (go_at_call 174; refine (btH.out _ _ _ _).mono ?_; rintro e wq ⟨rfl, hwq⟩; subst hwq))
          go_roundw
          case rel => exact ⟨m + 1, _, by omega, rfl, by go_num, hst2.out.symm, hBnH⟩
          case measure => simp [intOf]; omega
        ·have hend := hz.out
         rw [List.drop_eq_nil_of_le (by have := e4H.out; omega)] at hend
         have hR : R = true := hend.symm
         subst hR
         clear hend
         go_wp2
         go_ret
         exact ⟨rfl, hB.out.hb⟩
end Go.Proofs.YtjjccimeikkogaaGreatDoor
