/- Flags, parameters and results of methods, on both sides; whether a method's body fits, and whether its name asks for more. -/
import Derived.Test.YthbledmeghkfpaaGreatDoorDeepF
import Derived.Test.YthbledmeghkfpaaGreatDoorInsA
import Derived.Test.YthbledmeghkfpaaGreatDoorSig3
import Derived.Deep.QuietTactic
import Derived.BigQuiet
import Derived.Deep.RegionHeld3
namespace Go.Proofs.YthbledmeghkfpaaGreatDoor
set_option linter.unusedVariables false
open Go.ChangeShapes Go.WideShapes Go.ChangeAt Go.RowKit

def hasB (f g : Int) : Bool := bits .and .i64 f g != 0
def sumB (f g : Int) : Bool := bits .andNot .i64 f g == 0
def flagB (f g : Int) : Bool := decide (0 ≤ f) && (bits .and .i64 f g == f)
theorem hasFlag_calls (f g : Int) (w : World) : Calls Tryz.prog 62 #[.int .i64 f, .int .i64 g] w fun e w' => e = .returned (.bool (hasB f g)) ∧ w' = w := by
  unfold hasB
  go_enter Tryz.func62, Tryz.ntmps62
  go_wp2
  go_ret
  exact ⟨rfl, rfl⟩
theorem sumOf_calls (f g : Int) (w : World) : Calls Tryz.prog 35 #[.int .i64 f, .int .i64 g] w fun e w' => e = .returned (.bool (sumB f g)) ∧ w' = w := by
  unfold sumB
  go_enter Tryz.func35, Tryz.ntmps35
  go_wp2
  go_ret
  exact ⟨rfl, rfl⟩
theorem l2Has_calls (f g : Int) (w : World) : Calls Tryz.prog 26 #[.int .i64 f, .int .i64 g] w fun e w' => e = .returned (.bool (hasB f g)) ∧ w' = w := by
  unfold hasB
  go_enter Tryz.func26, Tryz.ntmps26
  go_wp2
  go_ret
  exact ⟨rfl, rfl⟩
theorem l2Flags_calls (f g : Int) (w : World) : Calls Tryz.prog 25 #[.int .i64 f, .int .i64 g] w fun e w' => e = .returned (.bool (flagB f g)) ∧ w' = w := by
  unfold flagB
  go_enter Tryz.func25, Tryz.ntmps25
  go_wp2
  all_goals (
    go_ret
    go_light
    refine ⟨?_, rfl⟩
    first | (rw [decide_eq_true (by assumption)]; rfl) | (rw [decide_eq_false (by omega)]; rfl))
theorem own_form {w : World} {base : Nat} {e : TypeId} {size : Nat} {v : Value} {n : Nat} {xs : List Value} (h : w.ownsRow base e size v n xs) : ∃ a c, v = .slice a n c ∧ n ≤ maxLen := by
  obtain ⟨_, ⟨rfl, rfl⟩ | ⟨g, cap, cur, hv, _, _, h1, h2, _⟩⟩ := h
  · exact ⟨_, _, rfl, Nat.zero_le _⟩
  · exact ⟨_, _, hv, Nat.le_trans h1 h2⟩
def ParPost (l : List UInt8) (w : World) (e : Ending) (w' : World) : Prop := (∃ a c, e = .returned (.slice a (sigPars l).length c) ∧ (sigPars l).length ≤ maxLen) ∧ Below w.heap.size w w'
theorem implParams_calls (s : ByteArray) (w : World) (hs : s.size ≤ 1048576) (hsh : w.ShapedOpen Tryz.prog) : Calls Tryz.prog 140 #[.string s] w (ParPost s.data.toList w) := by
  have h : Hid (Calls Tryz.prog 112 #[.string s] w (SigPost s.data.toList w)) := implSig_calls s w hs hsh
  clear hsh
  unfold ParPost
  go_enter Tryz.func140, Tryz.ntmps140
  go_wp2_with (go_at_call 112; refine h.out.mono ?_; rintro e w1 ⟨v, rfl, hown, hb⟩; obtain ⟨a, c, rfl, hm⟩ := own_form hown)
  go_ret
  exact ⟨⟨_, _, rfl, hm⟩, hb⟩
theorem implResult_calls (s : ByteArray) (w : World) (hs : s.size ≤ 1048576) (hsh : w.ShapedOpen Tryz.prog) : Calls Tryz.prog 114 #[.string s] w fun e w' => e = .returned (.string (mkS (sigRes s.data.toList))) ∧ Below w.heap.size w w' := by
  have h : Hid (Calls Tryz.prog 112 #[.string s] w (SigPost s.data.toList w)) := implSig_calls s w hs hsh
  clear hsh
  go_enter Tryz.func114, Tryz.ntmps114
  go_wp2_with (go_at_call 112; refine h.out.mono ?_; rintro e w1 ⟨v, rfl, hown, hb⟩)
  go_ret
  exact ⟨rfl, hb⟩
theorem specParams_calls (s : ByteArray) (w : World) (hs : s.size ≤ 1048576) : Calls Tryz.prog 85 #[.string s] w (ParPost s.data.toList w) := by
  have h : Hid (∀ w, Calls Tryz.prog 104 #[.string s] w (SigPost s.data.toList w)) := fun w => specSig_calls s w hs
  unfold ParPost
  go_enter Tryz.func85, Tryz.ntmps85
  go_wp2_with (go_at_call 104; refine (h.out _).mono ?_; rintro e w1 ⟨v, rfl, hown, hb⟩; obtain ⟨a, c, rfl, hm⟩ := own_form hown)
  go_ret
  exact ⟨⟨_, _, rfl, hm⟩, hb⟩
theorem specResult_calls (s : ByteArray) (w : World) (hs : s.size ≤ 1048576) : Calls Tryz.prog 84 #[.string s] w fun e w' => e = .returned (.string (mkS (sigRes s.data.toList))) ∧ Below w.heap.size w w' := by
  have h : Hid (∀ w, Calls Tryz.prog 104 #[.string s] w (SigPost s.data.toList w)) := fun w => specSig_calls s w hs
  go_enter Tryz.func84, Tryz.ntmps84
  go_wp2_with (go_at_call 104; refine (h.out _).mono ?_; rintro e w1 ⟨v, rfl, hown, hb⟩)
  go_ret
  exact ⟨rfl, hb⟩

/-- A method as a value. -/
abbrev methV (N S : ByteArray) (f k l : Int) (a1 : Option Addr) (n1 c1 : Nat) (a2 : Option Addr) (n2 c2 : Nat) (a3 : Option Addr) (n3 c3 : Nat) (a4 : Option Addr) (n4 c4 : Nat) : Value :=
  .agg #[.string N, .string S, .int .i64 f, .int .i64 k, .int .i64 l, .slice a1 n1 c1, .slice a2 n2 c2, .slice a3 n3 c3, .slice a4 n4 c4]
def placesB (S : ByteArray) (f : Int) : Int := (sigPars S.data.toList).length + (if hasB f 1 then 0 else 1)
theorem pars_le (l : List UInt8) : (sigPars l).length ≤ 8 := by
  unfold sigPars
  split
  · rename_i h
    cases l with
    | nil => cases h
    | cons b t =>
      by_cases hb : b = 40
      · subst hb
        simp only [sigOk, okOf, Bool.and_eq_true, decide_eq_true_eq] at h
        exact h.2.1.1
      · rw [sig_head (fun t' e => hb (by injection e))] at h
        cases h
  · simp

set_option maxRecDepth 1000000 in
set_option maxHeartbeats 1000000 in
theorem placesTaken_calls (N S : ByteArray) (f k l : Int) (a1 : Option Addr) (n1 c1 : Nat) (a2 : Option Addr) (n2 c2 : Nat) (a3 : Option Addr) (n3 c3 : Nat) (a4 : Option Addr) (n4 c4 : Nat) (w : World) (hs : S.size ≤ 1048576) (hsh : w.ShapedOpen Tryz.prog) :
    Calls Tryz.prog 113 #[methV N S f k l a1 n1 c1 a2 n2 c2 a3 n3 c3 a4 n4 c4] w fun e w' => e = .returned (.int .i64 (placesB S f)) ∧ Below w.heap.size w w' := by
  have pH : Hid (∀ W, Below w.heap.size w W → Calls Tryz.prog 140 #[.string S] W (ParPost S.data.toList W)) := fun W hW => implParams_calls S W hs (shaped_below hsh hW)
  have fH : Hid (∀ W, Calls Tryz.prog 62 #[.int .i64 f, .int .i64 1] W fun e w' => e = .returned (.bool (hasB f 1)) ∧ w' = W) := fun W => hasFlag_calls f 1 W
  have hp := pars_le S.data.toList
  unfold placesB
  unfold ParPost at pH
  generalize (sigPars S.data.toList).length = n at *
  obtain ⟨b, hb⟩ : ∃ b, hasB f 1 = b := ⟨_, rfl⟩
  rw [hb] at fH ⊢
  clear hsh hb
  cases b
  all_goals (
    go_enter Tryz.func113, Tryz.ntmps113
    go_wp2_with fail
    obtain ⟨W0, hW0⟩ : ∃ W : World, W = w.alloc (.cells #[.string N, .string S, .int .i64 f, .int .i64 k, .int .i64 l, .slice a1 n1 c1, .slice a2 n2 c2, .slice a3 n3 c3, .slice a4 n4 c4] 79) := ⟨_, rfl⟩
    rw [← hW0]
    have r0 : Hid (Rec1 w W0 [.string N, .string S, .int .i64 f, .int .i64 k, .int .i64 l, .slice a1 n1 c1, .slice a2 n2 c2, .slice a3 n3 c3, .slice a4 n4 c4]) := Rec1.start hW0
    clear hW0
    refine (pH.out W0 r0.out.hb).mono ?_
    rintro e w1 ⟨⟨a, c, rfl, hm⟩, hb1⟩
    unfold maxLen at hm
    have r1 : Hid (Rec1 w w1 [.string N, .string S, .int .i64 f, .int .i64 k, .int .i64 l, .slice a1 n1 c1, .slice a2 n2 c2, .slice a3 n3 c3, .slice a4 n4 c4]) := r0.out.call hb1
    have y2 := r1.out.cell 2 _ rfl
    clear hb1
    go_wp2_with (go_at_call 62; refine (fH.out _).mono ?_; rintro e w2 ⟨rfl, rfl⟩)
    go_ret
    exact ⟨by first | (simp; done) | (simp; apply wrap64_of; omega), r1.out.hb⟩)

theorem below_drewN2 {B : Nat} {w w' : World} (h : Below B w w') (n : Nat) : Below B w (w'.drewN n) := by
  induction n with
  | zero => exact h
  | succ n ih => exact ih.drew
theorem ret_bool {a b : Bool} (h : a = b) : Ending.returned (.bool a) = Ending.returned (.bool b) := by rw [h]
def sumZ (n1 n2 n3 n4 : Nat) : Bool := decide (n1 + n2 + n3 + n4 = 0)
def bodyB (S : ByteArray) (f k l : Int) (n1 n2 n3 n4 : Nat) : Bool :=
  if hasB f 4 = false ∧ hasB f 64 = false then decide (0 < n1) && decide (placesB S f ≤ l)
  else if hasB f 4 = true ∧ (hasB f 64 = true ∨ hasB f 43 = true) then false
  else sumZ n1 n2 n3 n4 && k == 0 && l == 0

set_option maxRecDepth 1000000 in
set_option maxHeartbeats 4000000 in
theorem bodyFits_calls (N S : ByteArray) (f k l : Int) (a1 : Option Addr) (n1 c1 : Nat) (a2 : Option Addr) (n2 c2 : Nat) (a3 : Option Addr) (n3 c3 : Nat) (a4 : Option Addr) (n4 c4 : Nat) (w : World) (hs : S.size ≤ 1048576) (hsh : w.ShapedOpen Tryz.prog) (h1 : n1 ≤ 1048576) (h2 : n2 ≤ 1048576) (h3 : n3 ≤ 1048576) (h4 : n4 ≤ 1048576) :
    Calls Tryz.prog 94 #[methV N S f k l a1 n1 c1 a2 n2 c2 a3 n3 c3 a4 n4 c4] w fun e w' => e = .returned (.bool (bodyB S f k l n1 n2 n3 n4)) ∧ Below w.heap.size w w' := by
  have pH : Hid (∀ W, Below w.heap.size w W → Calls Tryz.prog 113 #[methV N S f k l a1 n1 c1 a2 n2 c2 a3 n3 c3 a4 n4 c4] W fun e w' => e = .returned (.int .i64 (placesB S f)) ∧ Below W.heap.size W w') := fun W hW => placesTaken_calls N S f k l a1 n1 c1 a2 n2 c2 a3 n3 c3 a4 n4 c4 W hs (shaped_below hsh hW)
  have fH : Hid (∀ g W, Calls Tryz.prog 62 #[.int .i64 f, .int .i64 g] W fun e w' => e = .returned (.bool (hasB f g)) ∧ w' = W) := fun g W => hasFlag_calls f g W
  obtain ⟨R, hR⟩ : ∃ R, bodyB S f k l n1 n2 n3 n4 = R := ⟨_, rfl⟩
  rw [hR]
  unfold bodyB at hR
  generalize placesB S f = P at *
  have hRH : Hid (_ = R) := hR
  clear hsh hs hR
  have hmk : Hid (∀ W, Rec1 w W [.string N, .string S, .int .i64 f, .int .i64 k, .int .i64 l, .slice a1 n1 c1, .slice a2 n2 c2, .slice a3 n3 c3, .slice a4 n4 c4] → (Rec1 w W [.string N, .string S, .int .i64 f, .int .i64 k, .int .i64 l, .slice a1 n1 c1, .slice a2 n2 c2, .slice a3 n3 c3, .slice a4 n4 c4] ∧ W.cell? ⟨w.heap.size, 0, none⟩ = some (.string N) ∧ W.cell? ⟨w.heap.size, 1, none⟩ = some (.string S) ∧ W.cell? ⟨w.heap.size, 2, none⟩ = some (.int .i64 f) ∧ W.cell? ⟨w.heap.size, 3, none⟩ = some (.int .i64 k) ∧ W.cell? ⟨w.heap.size, 4, none⟩ = some (.int .i64 l) ∧ W.cell? ⟨w.heap.size, 5, none⟩ = some (.slice a1 n1 c1) ∧ W.cell? ⟨w.heap.size, 6, none⟩ = some (.slice a2 n2 c2) ∧ W.cell? ⟨w.heap.size, 7, none⟩ = some (.slice a3 n3 c3) ∧ W.cell? ⟨w.heap.size, 8, none⟩ = some (.slice a4 n4 c4))) := fun W h => ⟨h, h.cell 0 _ rfl, h.cell 1 _ rfl, h.cell 2 _ rfl, h.cell 3 _ rfl, h.cell 4 _ rfl, h.cell 5 _ rfl, h.cell 6 _ rfl, h.cell 7 _ rfl, h.cell 8 _ rfl⟩
  cases hp : hasB f 4
  · cases hq : hasB f 64
    · by_cases hn : 0 < n1
      · have hnd : decide ((0 : Int) < (n1 : Int)) = true := decide_eq_true (by omega)
        have hni : (0 : Int) < (n1 : Int) := by omega
        go_enter Tryz.func94, Tryz.ntmps94
        go_wp2
        go_quiet (first | (go_at_call 62; exact Calls.quiet_of_same (fH.out _ _)))
        go_wp2
        obtain ⟨W0, hW0⟩ : ∃ W : World, W = (w.alloc (.cells #[.string N, .string S, .int .i64 f, .int .i64 k, .int .i64 l, .slice a1 n1 c1, .slice a2 n2 c2, .slice a3 n3 c3, .slice a4 n4 c4] 79)).drewN nq := ⟨_, rfl⟩
        rw [← hW0]
        have r0 : Rec1 w W0 [.string N, .string S, .int .i64 f, .int .i64 k, .int .i64 l, .slice a1 n1 c1, .slice a2 n2 c2, .slice a3 n3 c3, .slice a4 n4 c4] := by rw [hW0]; exact (Rec1.start rfl).call (below_drewN2 (Below.refl _ _) _)
        have hS0 := hmk.out W0 r0
        clear hW0 r0
        go_region_held3 (fun W => Rec1 w W [.string N, .string S, .int .i64 f, .int .i64 k, .int .i64 l, .slice a1 n1 c1, .slice a2 n2 c2, .slice a3 n3 c3, .slice a4 n4 c4] ∧ W.cell? ⟨w.heap.size, 0, none⟩ = some (.string N) ∧ W.cell? ⟨w.heap.size, 1, none⟩ = some (.string S) ∧ W.cell? ⟨w.heap.size, 2, none⟩ = some (.int .i64 f) ∧ W.cell? ⟨w.heap.size, 3, none⟩ = some (.int .i64 k) ∧ W.cell? ⟨w.heap.size, 4, none⟩ = some (.int .i64 l) ∧ W.cell? ⟨w.heap.size, 5, none⟩ = some (.slice a1 n1 c1) ∧ W.cell? ⟨w.heap.size, 6, none⟩ = some (.slice a2 n2 c2) ∧ W.cell? ⟨w.heap.size, 7, none⟩ = some (.slice a3 n3 c3) ∧ W.cell? ⟨w.heap.size, 8, none⟩ = some (.slice a4 n4 c4)) (first | assumption | exact hmk.out _ (Rec1.call (And.left (by assumption)) (Below.drew (Below.refl _ _))) | exact hmk.out _ (Rec1.call (And.left (by assumption)) (by assumption))) (first | (go_at_call 113; refine (pH.out _ (Rec1.hb (And.left (by assumption)))).mono ?_; rintro e w2 ⟨rfl, hb2⟩))
        go_wp2
        go_ret
        refine ⟨?_, by first | exact Rec1.hb (And.left (by assumption)) | exact (Rec1.call (And.left (by assumption)) (by assumption)).hb⟩
        rw [← hRH.out]
        simp [hp, hq, hn]
      · have hnd : decide ((0 : Int) < (n1 : Int)) = false := decide_eq_false (by omega)
        go_enter Tryz.func94, Tryz.ntmps94
        go_wp2
        go_quiet (first | (go_at_call 62; exact Calls.quiet_of_same (fH.out _ _)))
        go_wp2
        go_quiet (fail)
        go_wp2
        go_ret
        refine ⟨?_, below_drewN2 (below_drewN2 (below_1 _ _) _) _⟩
        rw [← hRH.out]
        simp [hp, hq, hn]
    · go_enter Tryz.func94, Tryz.ntmps94
      go_wp2
      go_quiet (first | (go_at_call 62; exact Calls.quiet_of_same (fH.out _ _)))
      go_wp2
      all_goals (
        go_ret
        refine ⟨?_, below_drewN2 (below_1 _ _) _⟩
        go_light
        rw [← hRH.out]
        refine ret_bool ?_
        rw [if_neg (by simp [hp, hq]), if_neg (by simp [hp, hq])]
        first
          | rw [show sumZ n1 n2 n3 n4 = true from decide_eq_true (by omega)]
          | rw [show sumZ n1 n2 n3 n4 = false from decide_eq_false (by omega)]
        simp_all)
  · cases hq : hasB f 64
    · cases hr : hasB f 43
      · go_enter Tryz.func94, Tryz.ntmps94
        go_wp2
        go_quiet (first | (go_at_call 62; exact Calls.quiet_of_same (fH.out _ _)))
        go_wp2_with (go_at_call 62; refine (fH.out _ _).mono ?_; rintro e w2 ⟨rfl, rfl⟩)
        all_goals (
          go_ret
          refine ⟨?_, below_drewN2 (below_1 _ _) _⟩
          go_light
          rw [← hRH.out]
          refine ret_bool ?_
          rw [if_neg (by simp [hp, hq]), if_neg (by simp [hp, hq, hr])]
          first
            | rw [show sumZ n1 n2 n3 n4 = true from decide_eq_true (by omega)]
            | rw [show sumZ n1 n2 n3 n4 = false from decide_eq_false (by omega)]
          simp_all)
      · go_enter Tryz.func94, Tryz.ntmps94
        go_wp2
        go_quiet (first | (go_at_call 62; exact Calls.quiet_of_same (fH.out _ _)))
        go_wp2_with (go_at_call 62; refine (fH.out _ _).mono ?_; rintro e w2 ⟨rfl, rfl⟩)
        go_ret
        exact ⟨by rw [← hRH.out]; simp [hp, hq, hr], below_drewN2 (below_1 _ _) _⟩
    · go_enter Tryz.func94, Tryz.ntmps94
      go_wp2
      go_quiet (first | (go_at_call 62; exact Calls.quiet_of_same (fH.out _ _)))
      go_wp2
      go_ret
      exact ⟨by rw [← hRH.out]; simp [hp, hq], below_drewN2 (below_1 _ _) _⟩

def specB (N S : ByteArray) (f : Int) : Bool :=
  if (N.toList == [110, 101, 119]) = true then (mkS (sigRes S.data.toList)).toList == [86] && !hasB f 103
  else if (N.toList == [115, 116, 97, 114, 116]) = true then S.toList == [40, 41, 86] && hasB f 1 && !hasB f 64
  else true

set_option maxRecDepth 1000000 in
set_option maxHeartbeats 4000000 in
theorem specialOk_calls (N S : ByteArray) (f k l : Int) (a1 : Option Addr) (n1 c1 : Nat) (a2 : Option Addr) (n2 c2 : Nat) (a3 : Option Addr) (n3 c3 : Nat) (a4 : Option Addr) (n4 c4 : Nat) (w : World) (hs : S.size ≤ 1048576) (hsh : w.ShapedOpen Tryz.prog) :
    Calls Tryz.prog 95 #[methV N S f k l a1 n1 c1 a2 n2 c2 a3 n3 c3 a4 n4 c4] w fun e w' => e = .returned (.bool (specB N S f)) ∧ Below w.heap.size w w' := by
  have rH : Hid (∀ W, Below w.heap.size w W → Calls Tryz.prog 114 #[.string S] W fun e w' => e = .returned (.string (mkS (sigRes S.data.toList))) ∧ Below W.heap.size W w') := fun W hW => implResult_calls S W hs (shaped_below hsh hW)
  have fH : Hid (∀ g W, Calls Tryz.prog 62 #[.int .i64 f, .int .i64 g] W fun e w' => e = .returned (.bool (hasB f g)) ∧ w' = W) := fun g W => hasFlag_calls f g W
  clear hsh hs
  obtain ⟨R, hR⟩ : ∃ R, specB N S f = R := ⟨_, rfl⟩
  rw [hR]
  unfold specB at hR
  generalize mkS (sigRes S.data.toList) = Z at *
  have hRH : Hid (_ = R) := hR
  clear hR
  cases hn : (N.toList == [110, 101, 119])
  · cases hst : (N.toList == [115, 116, 97, 114, 116])
    · go_enter Tryz.func95, Tryz.ntmps95
      go_wp2
      go_ret
      exact ⟨by rw [← hRH.out]; simp [hn, hst], below_1 _ _⟩
    · cases h1 : (S.toList == [40, 41, 86])
      · go_enter Tryz.func95, Tryz.ntmps95
        go_wp2
        go_ret
        exact ⟨by rw [← hRH.out]; simp [hn, hst, h1], below_1 _ _⟩
      · cases h2 : hasB f 1
        all_goals (
          go_enter Tryz.func95, Tryz.ntmps95
          go_wp2_with (go_at_call 62; refine (fH.out _ _).mono ?_; rintro e w2 ⟨rfl, rfl⟩)
          go_ret
          exact ⟨by rw [← hRH.out]; simp [hn, hst, h1, h2], below_1 _ _⟩)
  · cases h1 : (Z.toList == [86])
    all_goals (
      go_enter Tryz.func95, Tryz.ntmps95
      go_wp2_with fail
      obtain ⟨W0, hW0⟩ : ∃ W : World, W = w.alloc (.cells #[.string N, .string S, .int .i64 f, .int .i64 k, .int .i64 l, .slice a1 n1 c1, .slice a2 n2 c2, .slice a3 n3 c3, .slice a4 n4 c4] 79) := ⟨_, rfl⟩
      rw [← hW0]
      have r0 : Hid (Rec1 w W0 [.string N, .string S, .int .i64 f, .int .i64 k, .int .i64 l, .slice a1 n1 c1, .slice a2 n2 c2, .slice a3 n3 c3, .slice a4 n4 c4]) := Rec1.start hW0
      clear hW0
      refine (rH.out W0 r0.out.hb).mono ?_
      rintro e w1 ⟨rfl, hb1⟩
      have r1 : Hid (Rec1 w w1 [.string N, .string S, .int .i64 f, .int .i64 k, .int .i64 l, .slice a1 n1 c1, .slice a2 n2 c2, .slice a3 n3 c3, .slice a4 n4 c4]) := r0.out.call hb1
      have y2 := r1.out.cell 2 _ rfl
      clear hb1
      go_wp2_with (go_at_call 62; refine (fH.out _ _).mono ?_; rintro e w2 ⟨rfl, rfl⟩)
      go_ret
      exact ⟨by rw [← hRH.out]; simp [hn, h1], r1.out.hb⟩)
end Go.Proofs.YthbledmeghkfpaaGreatDoor
