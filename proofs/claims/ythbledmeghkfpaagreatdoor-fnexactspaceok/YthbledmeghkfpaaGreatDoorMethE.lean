/- A method, by the program. -/
import Derived.Test.YthbledmeghkfpaaGreatDoorMethD
namespace Go.Proofs.YthbledmeghkfpaaGreatDoor
set_option linter.unusedVariables false
open Go.ChangeShapes Go.WideShapes Go.ChangeAt Go.RowKit

set_option maxRecDepth 1000000 in
set_option maxHeartbeats 4000000 in
theorem methodWalk (N S : ByteArray) (f k l : Int) (a1 : Option Addr) (n1 c1 : Nat) (a2 : Option Addr) (n2 c2 : Nat) (a3 : Option Addr) (n3 c3 : Nat) (a4 : Option Addr) (n4 c4 : Nat) (b1 b2 b3 b4 b5 b6 b7 b8 : Bool) (w : World)
    (qq1 : ∀ W, Below w.heap.size w W → Calls Tryz.prog 33 #[.string N] W fun e w' => e = .returned (.bool b1) ∧ Below W.heap.size W w')
    (qq2 : ∀ W, Below w.heap.size w W → Calls Tryz.prog 92 #[.string S] W fun e w' => e = .returned (.bool b2) ∧ Below W.heap.size W w')
    (qq3 : ∀ W, Below w.heap.size w W → Calls Tryz.prog 35 #[.int .i64 f, .int .i64 111] W fun e w' => e = .returned (.bool b3) ∧ Below W.heap.size W w')
    (qq4 : ∀ W, Below w.heap.size w W → Calls Tryz.prog 93 #[.int .i64 k, .int .i64 0, .int .i64 40] W fun e w' => e = .returned (.bool b4) ∧ Below W.heap.size W w')
    (qq5 : ∀ W, Below w.heap.size w W → Calls Tryz.prog 93 #[.int .i64 l, .int .i64 0, .int .i64 40] W fun e w' => e = .returned (.bool b5) ∧ Below W.heap.size W w')
    (qq6 : ∀ W, Below w.heap.size w W → Calls Tryz.prog 94 #[methV N S f k l a1 n1 c1 a2 n2 c2 a3 n3 c3 a4 n4 c4] W fun e w' => e = .returned (.bool b6) ∧ Below W.heap.size W w')
    (qq7 : ∀ W, Below w.heap.size w W → Calls Tryz.prog 95 #[methV N S f k l a1 n1 c1 a2 n2 c2 a3 n3 c3 a4 n4 c4] W fun e w' => e = .returned (.bool b7) ∧ Below W.heap.size W w')
    (qq8 : ∀ W, Below w.heap.size w W → Calls Tryz.prog 96 #[methV N S f k l a1 n1 c1 a2 n2 c2 a3 n3 c3 a4 n4 c4] W fun e w' => e = .returned (.bool b8) ∧ Below W.heap.size W w') :
    Calls Tryz.prog 67 #[methV N S f k l a1 n1 c1 a2 n2 c2 a3 n3 c3 a4 n4 c4] w fun e w' => e = .returned (.bool (b1 && (b2 && (b3 && (b4 && (b5 && (b6 && (b7 && b8)))))))) ∧ Below w.heap.size w w' := by
  have qq1H : Hid (∀ W, Below w.heap.size w W → Calls Tryz.prog 33 #[.string N] W fun e w' => e = .returned (.bool b1) ∧ Below W.heap.size W w') := qq1
  have qq2H : Hid (∀ W, Below w.heap.size w W → Calls Tryz.prog 92 #[.string S] W fun e w' => e = .returned (.bool b2) ∧ Below W.heap.size W w') := qq2
  have qq3H : Hid (∀ W, Below w.heap.size w W → Calls Tryz.prog 35 #[.int .i64 f, .int .i64 111] W fun e w' => e = .returned (.bool b3) ∧ Below W.heap.size W w') := qq3
  have qq4H : Hid (∀ W, Below w.heap.size w W → Calls Tryz.prog 93 #[.int .i64 k, .int .i64 0, .int .i64 40] W fun e w' => e = .returned (.bool b4) ∧ Below W.heap.size W w') := qq4
  have qq5H : Hid (∀ W, Below w.heap.size w W → Calls Tryz.prog 93 #[.int .i64 l, .int .i64 0, .int .i64 40] W fun e w' => e = .returned (.bool b5) ∧ Below W.heap.size W w') := qq5
  have qq6H : Hid (∀ W, Below w.heap.size w W → Calls Tryz.prog 94 #[methV N S f k l a1 n1 c1 a2 n2 c2 a3 n3 c3 a4 n4 c4] W fun e w' => e = .returned (.bool b6) ∧ Below W.heap.size W w') := qq6
  have qq7H : Hid (∀ W, Below w.heap.size w W → Calls Tryz.prog 95 #[methV N S f k l a1 n1 c1 a2 n2 c2 a3 n3 c3 a4 n4 c4] W fun e w' => e = .returned (.bool b7) ∧ Below W.heap.size W w') := qq7
  have qq8H : Hid (∀ W, Below w.heap.size w W → Calls Tryz.prog 96 #[methV N S f k l a1 n1 c1 a2 n2 c2 a3 n3 c3 a4 n4 c4] W fun e w' => e = .returned (.bool b8) ∧ Below W.heap.size W w') := qq8
  clear qq1 qq2 qq3 qq4 qq5 qq6 qq7 qq8
  obtain ⟨R, hR⟩ : ∃ R, (b1 && (b2 && (b3 && (b4 && (b5 && (b6 && (b7 && b8))))))) = R := ⟨_, rfl⟩
  rw [hR]
  have hRH : Hid (_ = R) := hR
  clear hR
  go_enter Tryz.func67, Tryz.ntmps67
  go_wp2_with fail
  obtain ⟨W0, hW0⟩ : ∃ W : World, W = w.alloc (.cells #[.string N, .string S, .int .i64 f, .int .i64 k, .int .i64 l, .slice a1 n1 c1, .slice a2 n2 c2, .slice a3 n3 c3, .slice a4 n4 c4] 79) := ⟨_, rfl⟩
  rw [← hW0]
  have r0 : Hid (Rec1 w W0 [.string N, .string S, .int .i64 f, .int .i64 k, .int .i64 l, .slice a1 n1 c1, .slice a2 n2 c2, .slice a3 n3 c3, .slice a4 n4 c4]) := Rec1.start hW0
  clear hW0
  refine (qq1H.out _ r0.out.hb).mono ?_
  rintro e w1 ⟨rfl, hb1⟩
  have r1 : Hid (Rec1 w w1 [.string N, .string S, .int .i64 f, .int .i64 k, .int .i64 l, .slice a1 n1 c1, .slice a2 n2 c2, .slice a3 n3 c3, .slice a4 n4 c4]) := r0.out.call hb1
  clear hb1
  have y0 := r1.out.cell 0 _ rfl
  have y1 := r1.out.cell 1 _ rfl
  have y2 := r1.out.cell 2 _ rfl
  have y3 := r1.out.cell 3 _ rfl
  have y4 := r1.out.cell 4 _ rfl
  have y5 := r1.out.cell 5 _ rfl
  have y6 := r1.out.cell 6 _ rfl
  have y7 := r1.out.cell 7 _ rfl
  have y8 := r1.out.cell 8 _ rfl
  cases b1 with
  | false =>
    go_wp2
    go_ret
    exact ⟨by rw [← hRH.out]; rfl, r1.out.hb⟩
  | true =>
    go_wp2_with fail
    clear y0 y1 y2 y3 y4 y5 y6 y7 y8
    refine (qq2H.out _ r1.out.hb).mono ?_
    rintro e w2 ⟨rfl, hb2⟩
    have r2 : Hid (Rec1 w w2 [.string N, .string S, .int .i64 f, .int .i64 k, .int .i64 l, .slice a1 n1 c1, .slice a2 n2 c2, .slice a3 n3 c3, .slice a4 n4 c4]) := r1.out.call hb2
    clear hb2
    have y0 := r2.out.cell 0 _ rfl
    have y1 := r2.out.cell 1 _ rfl
    have y2 := r2.out.cell 2 _ rfl
    have y3 := r2.out.cell 3 _ rfl
    have y4 := r2.out.cell 4 _ rfl
    have y5 := r2.out.cell 5 _ rfl
    have y6 := r2.out.cell 6 _ rfl
    have y7 := r2.out.cell 7 _ rfl
    have y8 := r2.out.cell 8 _ rfl
    cases b2 with
    | false =>
      go_wp2
      go_ret
      exact ⟨by rw [← hRH.out]; rfl, r2.out.hb⟩
    | true =>
      go_wp2_with fail
      clear y0 y1 y2 y3 y4 y5 y6 y7 y8
      refine (qq3H.out _ r2.out.hb).mono ?_
      rintro e w3 ⟨rfl, hb3⟩
      have r3 : Hid (Rec1 w w3 [.string N, .string S, .int .i64 f, .int .i64 k, .int .i64 l, .slice a1 n1 c1, .slice a2 n2 c2, .slice a3 n3 c3, .slice a4 n4 c4]) := r2.out.call hb3
      clear hb3
      have y0 := r3.out.cell 0 _ rfl
      have y1 := r3.out.cell 1 _ rfl
      have y2 := r3.out.cell 2 _ rfl
      have y3 := r3.out.cell 3 _ rfl
      have y4 := r3.out.cell 4 _ rfl
      have y5 := r3.out.cell 5 _ rfl
      have y6 := r3.out.cell 6 _ rfl
      have y7 := r3.out.cell 7 _ rfl
      have y8 := r3.out.cell 8 _ rfl
      cases b3 with
      | false =>
        go_wp2
        go_ret
        exact ⟨by rw [← hRH.out]; rfl, r3.out.hb⟩
      | true =>
        go_wp2_with fail
        clear y0 y1 y2 y3 y4 y5 y6 y7 y8
        refine (qq4H.out _ r3.out.hb).mono ?_
        rintro e w4 ⟨rfl, hb4⟩
        have r4 : Hid (Rec1 w w4 [.string N, .string S, .int .i64 f, .int .i64 k, .int .i64 l, .slice a1 n1 c1, .slice a2 n2 c2, .slice a3 n3 c3, .slice a4 n4 c4]) := r3.out.call hb4
        clear hb4
        have y0 := r4.out.cell 0 _ rfl
        have y1 := r4.out.cell 1 _ rfl
        have y2 := r4.out.cell 2 _ rfl
        have y3 := r4.out.cell 3 _ rfl
        have y4 := r4.out.cell 4 _ rfl
        have y5 := r4.out.cell 5 _ rfl
        have y6 := r4.out.cell 6 _ rfl
        have y7 := r4.out.cell 7 _ rfl
        have y8 := r4.out.cell 8 _ rfl
        cases b4 with
        | false =>
          go_wp2
          go_ret
          exact ⟨by rw [← hRH.out]; rfl, r4.out.hb⟩
        | true =>
          go_wp2_with fail
          clear y0 y1 y2 y3 y4 y5 y6 y7 y8
          refine (qq5H.out _ r4.out.hb).mono ?_
          rintro e w5 ⟨rfl, hb5⟩
          have r5 : Hid (Rec1 w w5 [.string N, .string S, .int .i64 f, .int .i64 k, .int .i64 l, .slice a1 n1 c1, .slice a2 n2 c2, .slice a3 n3 c3, .slice a4 n4 c4]) := r4.out.call hb5
          clear hb5
          have y0 := r5.out.cell 0 _ rfl
          have y1 := r5.out.cell 1 _ rfl
          have y2 := r5.out.cell 2 _ rfl
          have y3 := r5.out.cell 3 _ rfl
          have y4 := r5.out.cell 4 _ rfl
          have y5 := r5.out.cell 5 _ rfl
          have y6 := r5.out.cell 6 _ rfl
          have y7 := r5.out.cell 7 _ rfl
          have y8 := r5.out.cell 8 _ rfl
          cases b5 with
          | false =>
            go_wp2
            go_ret
            exact ⟨by rw [← hRH.out]; rfl, r5.out.hb⟩
          | true =>
            go_wp2_with fail
            clear y0 y1 y2 y3 y4 y5 y6 y7 y8
            refine (qq6H.out _ r5.out.hb).mono ?_
            rintro e w6 ⟨rfl, hb6⟩
            have r6 : Hid (Rec1 w w6 [.string N, .string S, .int .i64 f, .int .i64 k, .int .i64 l, .slice a1 n1 c1, .slice a2 n2 c2, .slice a3 n3 c3, .slice a4 n4 c4]) := r5.out.call hb6
            clear hb6
            have y0 := r6.out.cell 0 _ rfl
            have y1 := r6.out.cell 1 _ rfl
            have y2 := r6.out.cell 2 _ rfl
            have y3 := r6.out.cell 3 _ rfl
            have y4 := r6.out.cell 4 _ rfl
            have y5 := r6.out.cell 5 _ rfl
            have y6 := r6.out.cell 6 _ rfl
            have y7 := r6.out.cell 7 _ rfl
            have y8 := r6.out.cell 8 _ rfl
            cases b6 with
            | false =>
              go_wp2
              go_ret
              exact ⟨by rw [← hRH.out]; rfl, r6.out.hb⟩
            | true =>
              go_wp2_with fail
              clear y0 y1 y2 y3 y4 y5 y6 y7 y8
              refine (qq7H.out _ r6.out.hb).mono ?_
              rintro e w7 ⟨rfl, hb7⟩
              have r7 : Hid (Rec1 w w7 [.string N, .string S, .int .i64 f, .int .i64 k, .int .i64 l, .slice a1 n1 c1, .slice a2 n2 c2, .slice a3 n3 c3, .slice a4 n4 c4]) := r6.out.call hb7
              clear hb7
              have y0 := r7.out.cell 0 _ rfl
              have y1 := r7.out.cell 1 _ rfl
              have y2 := r7.out.cell 2 _ rfl
              have y3 := r7.out.cell 3 _ rfl
              have y4 := r7.out.cell 4 _ rfl
              have y5 := r7.out.cell 5 _ rfl
              have y6 := r7.out.cell 6 _ rfl
              have y7 := r7.out.cell 7 _ rfl
              have y8 := r7.out.cell 8 _ rfl
              cases b7 with
              | false =>
                go_wp2
                go_ret
                exact ⟨by rw [← hRH.out]; rfl, r7.out.hb⟩
              | true =>
                go_wp2_with fail
                clear y0 y1 y2 y3 y4 y5 y6 y7 y8
                refine (qq8H.out _ r7.out.hb).mono ?_
                rintro e w8 ⟨rfl, hb8⟩
                have r8 : Hid (Rec1 w w8 [.string N, .string S, .int .i64 f, .int .i64 k, .int .i64 l, .slice a1 n1 c1, .slice a2 n2 c2, .slice a3 n3 c3, .slice a4 n4 c4]) := r7.out.call hb8
                clear hb8
                go_wp2
                go_ret
                exact ⟨by rw [← hRH.out]; rfl, r8.out.hb⟩

/-- What the program says of a method. -/
def methI (x : MethL) : Bool := nameOk x.name.data.toList && (sigOk x.sig.data.toList && (sumB x.flags 111 && (betw x.stack 0 40 && (betw x.locals 0 40 && (bodyB x.sig x.flags x.stack x.locals x.code.length x.hands.length x.frames.length x.lines.length && (specB x.name x.sig x.flags && codeB x.code.length x.locals x.stack x.code x.hands x.frames x.lines))))))
set_option maxRecDepth 1000000 in
theorem implMethod_calls (x : MethL) (w : World) (row : List Value) (lo hi : Nat) (hh : hi ≤ w.heap.size) (hx : MethR true lo hi w row x) (hy : x.small) (hw : ∀ y ∈ x.code, y.wide) (he : EnvOk w) :
    Calls Tryz.prog 67 #[.agg row.toArray] w fun e w' => e = .returned (.bool (methI x)) ∧ Below w.heap.size w w' := by
  obtain ⟨p, q, s, t, rfl, hp, hq, hs, ht⟩ := hx
  obtain ⟨hN, hS, ⟨hc0, hc1⟩, ⟨hd0, hd1⟩, ⟨hf0, hf1⟩, hl⟩ := hy
  obtain ⟨a1, c1, rfl⟩ := hp.form
  obtain ⟨a2, c2, rfl⟩ := hq.form
  obtain ⟨a3, c3, rfl⟩ := hs.form
  obtain ⟨a4, c4, rfl⟩ := ht.form
  refine methodWalk x.name x.sig x.flags x.stack x.locals a1 _ c1 a2 _ c2 a3 _ c3 a4 _ c4 _ _ _ _ _ _ _ _ w
    (fun W hW => implName_below x.name W (by omega))
    (fun W hW => implSigOk_calls x.sig W hS (he.kept hW).2)
    (fun W hW => (sumOf_calls x.flags 111 W).mono (by rintro e w' ⟨rfl, rfl⟩; exact ⟨rfl, Below.refl _ _⟩))
    (fun W hW => (between_calls x.stack 0 40 W).mono (by rintro e w' ⟨rfl, rfl⟩; exact ⟨rfl, Below.refl _ _⟩))
    (fun W hW => (between_calls x.locals 0 40 W).mono (by rintro e w' ⟨rfl, rfl⟩; exact ⟨rfl, Below.refl _ _⟩))
    (fun W hW => bodyFits_calls _ _ _ _ _ _ _ _ _ _ _ _ _ _ _ _ _ W hS (he.kept hW).2 hc0 hd0 hf0 hl)
    (fun W hW => specialOk_calls _ _ _ _ _ _ _ _ _ _ _ _ _ _ _ _ _ W hS (he.kept hW).2)
    (fun W hW => codeOk_calls _ _ _ _ _ _ _ _ _ _ _ _ _ _ _ _ _ W x.code x.hands x.frames x.lines lo hi (Nat.le_trans hh hW.size)
      (hp.kept InsR.stable (Nat.le_refl _) (Nat.le_refl _) ((Same.below hW).mono (Nat.zero_le _) hh)) (hq.kept HandR.stable (Nat.le_refl _) (Nat.le_refl _) ((Same.below hW).mono (Nat.zero_le _) hh))
      (hs.kept FrameR.stable (Nat.le_refl _) (Nat.le_refl _) ((Same.below hW).mono (Nat.zero_le _) hh)) (ht.kept LineR.stable (Nat.le_refl _) (Nat.le_refl _) ((Same.below hW).mono (Nat.zero_le _) hh))
      rfl rfl rfl rfl hc0 hd0 hf0 hl (fun y hy => ⟨hc1 y hy, hw y hy⟩) hd1 hf1 (he.kept hW))
end Go.Proofs.YthbledmeghkfpaaGreatDoor
