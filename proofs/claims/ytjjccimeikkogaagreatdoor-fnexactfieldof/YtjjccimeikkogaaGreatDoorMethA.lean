import Derived.Test.YtjjccimeikkogaaGreatDoorDeepD
import Derived.Test.YtjjccimeikkogaaGreatDoorShShelf
set_option maxRecDepth 1000000
set_option maxHeartbeats 4000000
namespace Go.Proofs.YtjjccimeikkogaaGreatDoor
set_option linter.unusedVariables false
open Go.ChangeShapes Go.WideShapes Go.ChangeAt Go.RowKit
def hasB (f g : Int) : Bool := bits .and .i64 f g != 0
def sumB (f g : Int) : Bool := bits .andNot .i64 f g == 0
def flagB (f g : Int) : Bool := decide (0 ≤ f) && (bits .and .i64 f g == f)
theorem hasFlag_calls (f g : Int) (w : World) : Calls Tryz.prog 98 #[.int .i64 f, .int .i64 g] w fun e w' => e = .returned (.bool (hasB f g)) ∧ w' = w := by
 unfold hasB
 go_enter Tryz.func98, Tryz.ntmps98
 go_wp2
 go_ret
 exact ⟨rfl, rfl⟩
theorem sumOf_calls (f g : Int) (w : World) : Calls Tryz.prog 113 #[.int .i64 f, .int .i64 g] w fun e w' => e = .returned (.bool (sumB f g)) ∧ w' = w := by
 unfold sumB
 go_enter Tryz.func113, Tryz.ntmps113
 go_wp2
 go_ret
 exact ⟨rfl, rfl⟩
theorem l2Has_calls (f g : Int) (w : World) : Calls Tryz.prog 96 #[.int .i64 f, .int .i64 g] w fun e w' => e = .returned (.bool (hasB f g)) ∧ w' = w := by
 unfold hasB
 go_enter Tryz.func96, Tryz.ntmps96
 go_wp2
 go_ret
 exact ⟨rfl, rfl⟩
theorem l2Flags_calls (f g : Int) (w : World) : Calls Tryz.prog 104 #[.int .i64 f, .int .i64 g] w fun e w' => e = .returned (.bool (flagB f g)) ∧ w' = w := by
 unfold flagB
 go_enter Tryz.func104, Tryz.ntmps104
 go_wp2
 all_goals (
  go_ret
  go_light
  refine ⟨?_, rfl⟩
  first | (rw [decide_eq_true (by assumption)]; rfl) | (rw [decide_eq_false (by omega)]; rfl))
theorem own_form {w : World} {base : Nat} {e : TypeId} {size : Nat} {v : Value} {n : Nat} {xs : List Value} (h : w.ownsRow base e size v n xs) : ∃ a c, v = .slice a n c ∧ n ≤ maxLen := by
 obtain ⟨_, ⟨rfl, rfl⟩ | ⟨g, cap, cur, hv, _, _, h1, h2, _⟩⟩ := h
 ·exact ⟨_, _, rfl, Nat.zero_le _⟩
 ·exact ⟨_, _, hv, Nat.le_trans h1 h2⟩
def ParPost (l : List UInt8) (w : World) (e : Ending) (w' : World) : Prop := (∃ a c, e = .returned (.slice a (sigPars l).length c) ∧ (sigPars l).length ≤ maxLen) ∧ Below w.heap.size w w'
theorem implParams_calls (s : ByteArray) (w : World) (hs : s.size ≤ 1048576) (hsh : w.ShapedOpen Tryz.prog) : Calls Tryz.prog 212 #[.string s] w (ParPost s.data.toList w) := by
 have h : Hid (Calls Tryz.prog 192 #[.string s] w (SigPost s.data.toList w)) := implSig_calls s w hs hsh
 clear hsh
 unfold ParPost
 go_enter Tryz.func212, Tryz.ntmps212
 go_wp2_with (go_at_call 192; refine h.out.mono ?_; rintro e w1 ⟨v, rfl, hown, hb⟩; obtain ⟨a, c, rfl, hm⟩ := own_form hown)
 go_ret
 exact ⟨⟨_, _, rfl, hm⟩, hb⟩
theorem implResult_calls (s : ByteArray) (w : World) (hs : s.size ≤ 1048576) (hsh : w.ShapedOpen Tryz.prog) : Calls Tryz.prog 194 #[.string s] w fun e w' => e = .returned (.string (mkS (sigRes s.data.toList))) ∧ Below w.heap.size w w' := by
 have h : Hid (Calls Tryz.prog 192 #[.string s] w (SigPost s.data.toList w)) := implSig_calls s w hs hsh
 clear hsh
 go_enter Tryz.func194, Tryz.ntmps194
 go_wp2_with (go_at_call 192; refine h.out.mono ?_; rintro e w1 ⟨v, rfl, hown, hb⟩)
 go_ret
 exact ⟨rfl, hb⟩
theorem specParams_calls (s : ByteArray) (w : World) (hs : s.size ≤ 1048576) : Calls Tryz.prog 176 #[.string s] w (ParPost s.data.toList w) := by
 have h : Hid (∀ w, Calls Tryz.prog 189 #[.string s] w (SigPost s.data.toList w)) := fun w => specSig_calls s w hs
 unfold ParPost
 go_enter Tryz.func176, Tryz.ntmps176
 go_wp2_with (go_at_call 189; refine (h.out _).mono ?_; rintro e w1 ⟨v, rfl, hown, hb⟩; obtain ⟨a, c, rfl, hm⟩ := own_form hown)
 go_ret
 exact ⟨⟨_, _, rfl, hm⟩, hb⟩
theorem specResult_calls (s : ByteArray) (w : World) (hs : s.size ≤ 1048576) : Calls Tryz.prog 175 #[.string s] w fun e w' => e = .returned (.string (mkS (sigRes s.data.toList))) ∧ Below w.heap.size w w' := by
 have h : Hid (∀ w, Calls Tryz.prog 189 #[.string s] w (SigPost s.data.toList w)) := fun w => specSig_calls s w hs
 go_enter Tryz.func175, Tryz.ntmps175
 go_wp2_with (go_at_call 189; refine (h.out _).mono ?_; rintro e w1 ⟨v, rfl, hown, hb⟩)
 go_ret
 exact ⟨rfl, hb⟩
abbrev methV (N S : ByteArray) (f k l : Int) (a1 : Option Addr) (n1 c1 : Nat) (a2 : Option Addr) (n2 c2 : Nat) (a3 : Option Addr) (n3 c3 : Nat) (a4 : Option Addr) (n4 c4 : Nat) : Value :=
 .agg #[.string N, .string S, .int .i64 f, .int .i64 k, .int .i64 l, .slice a1 n1 c1, .slice a2 n2 c2, .slice a3 n3 c3, .slice a4 n4 c4]
def placesB (S : ByteArray) (f : Int) : Int := (sigPars S.data.toList).length + (if hasB f 1 then 0 else 1)
theorem pars_le (l : List UInt8) : (sigPars l).length ≤ 8 := by
 unfold sigPars
 split
 ·rename_i h
  cases l with
  | nil => cases h
  | cons b t =>
   by_cases hb : b = 40
   ·subst hb
    simp only [sigOk, okOf, Bool.and_eq_true, decide_eq_true_eq] at h
    exact h.2.1.1
   ·rw [sig_head (fun t' e => hb (by injection e))] at h
    cases h
 ·simp
theorem placesTaken_calls (N S : ByteArray) (f k l : Int) (a1 : Option Addr) (n1 c1 : Nat) (a2 : Option Addr) (n2 c2 : Nat) (a3 : Option Addr) (n3 c3 : Nat) (a4 : Option Addr) (n4 c4 : Nat) (w : World) (hs : S.size ≤ 1048576) (hsh : w.ShapedOpen Tryz.prog) :
  Calls Tryz.prog 193 #[methV N S f k l a1 n1 c1 a2 n2 c2 a3 n3 c3 a4 n4 c4] w fun e w' => e = .returned (.int .i64 (placesB S f)) ∧ Below w.heap.size w w' := by
 have pH : Hid (∀ W, Below w.heap.size w W → Calls Tryz.prog 212 #[.string S] W (ParPost S.data.toList W)) := fun W hW => implParams_calls S W hs (shaped_below hsh hW)
 have fH : Hid (∀ W, Calls Tryz.prog 98 #[.int .i64 f, .int .i64 1] W fun e w' => e = .returned (.bool (hasB f 1)) ∧ w' = W) := fun W => hasFlag_calls f 1 W
 have hp := pars_le S.data.toList
 unfold placesB
 unfold ParPost at pH
 generalize (sigPars S.data.toList).length = n at *
 obtain ⟨b, hb⟩ : ∃ b, hasB f 1 = b := ⟨_, rfl⟩
 rw [hb] at fH ⊢
 clear hsh hb
 cases b
 all_goals (
  go_enter Tryz.func193, Tryz.ntmps193
  go_wp2_with fail
  obtain ⟨W0, hW0⟩ : ∃ W : World, W = w.alloc (.cells #[.string N, .string S, .int .i64 f, .int .i64 k, .int .i64 l, .slice a1 n1 c1, .slice a2 n2 c2, .slice a3 n3 c3, .slice a4 n4 c4] 91) := ⟨_, rfl⟩
  rw [← hW0]
  have r0 : Hid (Rec1 w W0 [.string N, .string S, .int .i64 f, .int .i64 k, .int .i64 l, .slice a1 n1 c1, .slice a2 n2 c2, .slice a3 n3 c3, .slice a4 n4 c4]) := Rec1.start hW0
  clear hW0
  refine (pH.out W0 r0.out.hb).mono ?_
  rintro e w1 ⟨⟨a, c, rfl, hm⟩, hb1⟩
  unfold maxLen at hm
  have r1 : Hid (Rec1 w w1 [.string N, .string S, .int .i64 f, .int .i64 k, .int .i64 l, .slice a1 n1 c1, .slice a2 n2 c2, .slice a3 n3 c3, .slice a4 n4 c4]) := r0.out.call hb1
  have y2 := r1.out.cell 2 _ rfl
  clear hb1
  go_wp2_with (go_at_call 98; refine (fH.out _).mono ?_; rintro e w2 ⟨rfl, rfl⟩)
  go_ret
  exact ⟨by first | (simp; done) | (simp; apply wrap64_of; omega), r1.out.hb⟩)
theorem below_drewN2 {B : Nat} {w w' : World} (h : Below B w w') (n : Nat) : Below B w (w'.drewN n) := by
 induction n with
 | zero => exact h
 | succ n ih => exact ih.drew
theorem ret_bool {a b : Bool} (h : a = b) : Ending.returned (.bool a) = Ending.returned (.bool b) := by rw [h]
def sumZ (n1 n2 n3 n4 : Nat) : Bool := decide (n1 + n2 + n3 + n4 = 0)
def bodyB (S : ByteArray) (f k l : Int) (n1 n2 n3 n4 : Nat) : Bool :=
 if hasB f 4 = false ∧ hasB f 64 = false then decide (0 < n1) && decide (placesB S f ≤ l)
 else if hasB f 4 = true ∧ (hasB f 64 = true ∨ hasB f 43 = true) then false
 else sumZ n1 n2 n3 n4 && k == 0 && l == 0
theorem bodyFits_calls (N S : ByteArray) (f k l : Int) (a1 : Option Addr) (n1 c1 : Nat) (a2 : Option Addr) (n2 c2 : Nat) (a3 : Option Addr) (n3 c3 : Nat) (a4 : Option Addr) (n4 c4 : Nat) (w : World) (hs : S.size ≤ 1048576) (hsh : w.ShapedOpen Tryz.prog) (h1 : n1 ≤ 1048576) (h2 : n2 ≤ 1048576) (h3 : n3 ≤ 1048576) (h4 : n4 ≤ 1048576) :
  Calls Tryz.prog 182 #[methV N S f k l a1 n1 c1 a2 n2 c2 a3 n3 c3 a4 n4 c4] w fun e w' => e = .returned (.bool (bodyB S f k l n1 n2 n3 n4)) ∧ Below w.heap.size w w' := by
 have pH : Hid (∀ W, Below w.heap.size w W → Calls Tryz.prog 193 #[methV N S f k l a1 n1 c1 a2 n2 c2 a3 n3 c3 a4 n4 c4] W fun e w' => e = .returned (.int .i64 (placesB S f)) ∧ Below W.heap.size W w') := fun W hW => placesTaken_calls N S f k l a1 n1 c1 a2 n2 c2 a3 n3 c3 a4 n4 c4 W hs (shaped_below hsh hW)
 have fH : Hid (∀ g W, Calls Tryz.prog 98 #[.int .i64 f, .int .i64 g] W fun e w' => e = .returned (.bool (hasB f g)) ∧ w' = W) := fun g W => hasFlag_calls f g W
 obtain ⟨R, hR⟩ : ∃ R, bodyB S f k l n1 n2 n3 n4 = R := ⟨_, rfl⟩
 rw [hR]
 unfold bodyB at hR
 generalize placesB S f = P at *
 have hRH : Hid (_ = R) := hR
 clear hsh hs hR
 have hmk : Hid (∀ W, Rec1 w W [.string N, .string S, .int .i64 f, .int .i64 k, .int .i64 l, .slice a1 n1 c1, .slice a2 n2 c2, .slice a3 n3 c3, .slice a4 n4 c4] → (Rec1 w W [.string N, .string S, .int .i64 f, .int .i64 k, .int .i64 l, .slice a1 n1 c1, .slice a2 n2 c2, .slice a3 n3 c3, .slice a4 n4 c4] ∧ W.cell? ⟨w.heap.size, 0, none⟩ = some (.string N) ∧ W.cell? ⟨w.heap.size, 1, none⟩ = some (.string S) ∧ W.cell? ⟨w.heap.size, 2, none⟩ = some (.int .i64 f) ∧ W.cell? ⟨w.heap.size, 3, none⟩ = some (.int .i64 k) ∧ W.cell? ⟨w.heap.size, 4, none⟩ = some (.int .i64 l) ∧ W.cell? ⟨w.heap.size, 5, none⟩ = some (.slice a1 n1 c1) ∧ W.cell? ⟨w.heap.size, 6, none⟩ = some (.slice a2 n2 c2) ∧ W.cell? ⟨w.heap.size, 7, none⟩ = some (.slice a3 n3 c3) ∧ W.cell? ⟨w.heap.size, 8, none⟩ = some (.slice a4 n4 c4))) := fun W h => ⟨h, h.cell 0 _ rfl, h.cell 1 _ rfl, h.cell 2 _ rfl, h.cell 3 _ rfl, h.cell 4 _ rfl, h.cell 5 _ rfl, h.cell 6 _ rfl, h.cell 7 _ rfl, h.cell 8 _ rfl⟩
 cases hp : hasB f 4
 ·cases hq : hasB f 64
  ·by_cases hn : 0 < n1
   ·have hnd : decide ((0 : Int) < (n1 : Int)) = true := decide_eq_true (by omega)
    have hni : (0 : Int) < (n1 : Int) := by omega
    go_enter Tryz.func182, Tryz.ntmps182
    go_wp2
    go_quiet (first | (go_at_call 98; exact Calls.quiet_of_same (fH.out _ _)))
    go_wp2
    obtain ⟨W0, hW0⟩ : ∃ W : World, W = (w.alloc (.cells #[.string N, .string S, .int .i64 f, .int .i64 k, .int .i64 l, .slice a1 n1 c1, .slice a2 n2 c2, .slice a3 n3 c3, .slice a4 n4 c4] 91)).drewN nq := ⟨_, rfl⟩
    rw [← hW0]
    have r0 : Rec1 w W0 [.string N, .string S, .int .i64 f, .int .i64 k, .int .i64 l, .slice a1 n1 c1, .slice a2 n2 c2, .slice a3 n3 c3, .slice a4 n4 c4] := by rw [hW0]; exact (Rec1.start rfl).call (below_drewN2 (Below.refl _ _) _)
    have hS0 := hmk.out W0 r0
    clear hW0 r0
    go_region_held3 (fun W => Rec1 w W [.string N, .string S, .int .i64 f, .int .i64 k, .int .i64 l, .slice a1 n1 c1, .slice a2 n2 c2, .slice a3 n3 c3, .slice a4 n4 c4] ∧ W.cell? ⟨w.heap.size, 0, none⟩ = some (.string N) ∧ W.cell? ⟨w.heap.size, 1, none⟩ = some (.string S) ∧ W.cell? ⟨w.heap.size, 2, none⟩ = some (.int .i64 f) ∧ W.cell? ⟨w.heap.size, 3, none⟩ = some (.int .i64 k) ∧ W.cell? ⟨w.heap.size, 4, none⟩ = some (.int .i64 l) ∧ W.cell? ⟨w.heap.size, 5, none⟩ = some (.slice a1 n1 c1) ∧ W.cell? ⟨w.heap.size, 6, none⟩ = some (.slice a2 n2 c2) ∧ W.cell? ⟨w.heap.size, 7, none⟩ = some (.slice a3 n3 c3) ∧ W.cell? ⟨w.heap.size, 8, none⟩ = some (.slice a4 n4 c4)) (first | assumption | exact hmk.out _ (Rec1.call (And.left (by assumption)) (Below.drew (Below.refl _ _))) | exact hmk.out _ (Rec1.call (And.left (by assumption)) (by assumption))) (first | (go_at_call 193; refine (pH.out _ (Rec1.hb (And.left (by assumption)))).mono ?_; rintro e w2 ⟨rfl, hb2⟩))
    go_wp2
    go_ret
    refine ⟨?_, by first | exact Rec1.hb (And.left (by assumption)) | exact (Rec1.call (And.left (by assumption)) (by assumption)).hb⟩
    rw [← hRH.out]
    simp [hp, hq, hn]
   ·have hnd : decide ((0 : Int) < (n1 : Int)) = false := decide_eq_false (by omega)
    go_enter Tryz.func182, Tryz.ntmps182
    go_wp2
    go_quiet (first | (go_at_call 98; exact Calls.quiet_of_same (fH.out _ _)))
    go_wp2
    go_quiet (fail)
    go_wp2
    go_ret
    refine ⟨?_, below_drewN2 (below_drewN2 (below_1 _ _) _) _⟩
    rw [← hRH.out]
    simp [hp, hq, hn]
  ·go_enter Tryz.func182, Tryz.ntmps182
   go_wp2
   go_quiet (first | (go_at_call 98; exact Calls.quiet_of_same (fH.out _ _)))
   go_wp2
   all_goals (
    go_ret
    refine ⟨?_, below_drewN2 (below_1 _ _) _⟩
    go_light
    rw [← hRH.out]
    refine ret_bool ?_
    rw [if_neg (by simp [hp, hq]), if_neg (by simp [hp, hq])]
    first
     | rw [show sumZ n1 n2 n3 n4 = true from decide_eq_true (by omega)]
     | rw [show sumZ n1 n2 n3 n4 = false from decide_eq_false (by omega)]
    simp_all)
 ·cases hq : hasB f 64
  ·cases hr : hasB f 43
   ·go_enter Tryz.func182, Tryz.ntmps182
    go_wp2
    go_quiet (first | (go_at_call 98; exact Calls.quiet_of_same (fH.out _ _)))
    go_wp2_with (go_at_call 98; refine (fH.out _ _).mono ?_; rintro e w2 ⟨rfl, rfl⟩)
    all_goals (
     go_ret
     refine ⟨?_, below_drewN2 (below_1 _ _) _⟩
     go_light
     rw [← hRH.out]
     refine ret_bool ?_
     rw [if_neg (by simp [hp, hq]), if_neg (by simp [hp, hq, hr])]
     first
      | rw [show sumZ n1 n2 n3 n4 = true from decide_eq_true (by omega)]
      | rw [show sumZ n1 n2 n3 n4 = false from decide_eq_false (by omega)]
     simp_all)
   ·go_enter Tryz.func182, Tryz.ntmps182
    go_wp2
    go_quiet (first | (go_at_call 98; exact Calls.quiet_of_same (fH.out _ _)))
    go_wp2_with (go_at_call 98; refine (fH.out _ _).mono ?_; rintro e w2 ⟨rfl, rfl⟩)
    go_ret
    exact ⟨by rw [← hRH.out]; simp [hp, hq, hr], below_drewN2 (below_1 _ _) _⟩
  ·go_enter Tryz.func182, Tryz.ntmps182
   go_wp2
   go_quiet (first | (go_at_call 98; exact Calls.quiet_of_same (fH.out _ _)))
   go_wp2
   go_ret
   exact ⟨by rw [← hRH.out]; simp [hp, hq], below_drewN2 (below_1 _ _) _⟩
def specB (N S : ByteArray) (f : Int) : Bool :=
 if (N.toList == [110, 101, 119]) = true then (mkS (sigRes S.data.toList)).toList == [86] && !hasB f 103
 else if (N.toList == [115, 116, 97, 114, 116]) = true then S.toList == [40, 41, 86] && hasB f 1 && !hasB f 64
 else true
theorem specialOk_calls (N S : ByteArray) (f k l : Int) (a1 : Option Addr) (n1 c1 : Nat) (a2 : Option Addr) (n2 c2 : Nat) (a3 : Option Addr) (n3 c3 : Nat) (a4 : Option Addr) (n4 c4 : Nat) (w : World) (hs : S.size ≤ 1048576) (hsh : w.ShapedOpen Tryz.prog) :
  Calls Tryz.prog 183 #[methV N S f k l a1 n1 c1 a2 n2 c2 a3 n3 c3 a4 n4 c4] w fun e w' => e = .returned (.bool (specB N S f)) ∧ Below w.heap.size w w' := by
 have rH : Hid (∀ W, Below w.heap.size w W → Calls Tryz.prog 194 #[.string S] W fun e w' => e = .returned (.string (mkS (sigRes S.data.toList))) ∧ Below W.heap.size W w') := fun W hW => implResult_calls S W hs (shaped_below hsh hW)
 have fH : Hid (∀ g W, Calls Tryz.prog 98 #[.int .i64 f, .int .i64 g] W fun e w' => e = .returned (.bool (hasB f g)) ∧ w' = W) := fun g W => hasFlag_calls f g W
 clear hsh hs
 obtain ⟨R, hR⟩ : ∃ R, specB N S f = R := ⟨_, rfl⟩
 rw [hR]
 unfold specB at hR
 generalize mkS (sigRes S.data.toList) = Z at *
 have hRH : Hid (_ = R) := hR
 clear hR
 cases hn : (N.toList == [110, 101, 119])
 ·cases hst : (N.toList == [115, 116, 97, 114, 116])
  ·go_enter Tryz.func183, Tryz.ntmps183
   go_wp2
   go_ret
   exact ⟨by rw [← hRH.out]; simp [hn, hst], below_1 _ _⟩
  ·cases h1 : (S.toList == [40, 41, 86])
   ·go_enter Tryz.func183, Tryz.ntmps183
    go_wp2
    go_ret
    exact ⟨by rw [← hRH.out]; simp [hn, hst, h1], below_1 _ _⟩
   ·cases h2 : hasB f 1
    all_goals (
     go_enter Tryz.func183, Tryz.ntmps183
     go_wp2_with (go_at_call 98; refine (fH.out _ _).mono ?_; rintro e w2 ⟨rfl, rfl⟩)
     go_ret
     exact ⟨by rw [← hRH.out]; simp [hn, hst, h1, h2], below_1 _ _⟩)
 ·cases h1 : (Z.toList == [86])
  all_goals (
   go_enter Tryz.func183, Tryz.ntmps183
   go_wp2_with fail
   obtain ⟨W0, hW0⟩ : ∃ W : World, W = w.alloc (.cells #[.string N, .string S, .int .i64 f, .int .i64 k, .int .i64 l, .slice a1 n1 c1, .slice a2 n2 c2, .slice a3 n3 c3, .slice a4 n4 c4] 91) := ⟨_, rfl⟩
   rw [← hW0]
   have r0 : Hid (Rec1 w W0 [.string N, .string S, .int .i64 f, .int .i64 k, .int .i64 l, .slice a1 n1 c1, .slice a2 n2 c2, .slice a3 n3 c3, .slice a4 n4 c4]) := Rec1.start hW0
   clear hW0
   refine (rH.out W0 r0.out.hb).mono ?_
   rintro e w1 ⟨rfl, hb1⟩
   have r1 : Hid (Rec1 w w1 [.string N, .string S, .int .i64 f, .int .i64 k, .int .i64 l, .slice a1 n1 c1, .slice a2 n2 c2, .slice a3 n3 c3, .slice a4 n4 c4]) := r0.out.call hb1
   have y2 := r1.out.cell 2 _ rfl
   clear hb1
   go_wp2_with (go_at_call 98; refine (fH.out _ _).mono ?_; rintro e w2 ⟨rfl, rfl⟩)
   go_ret
   exact ⟨by rw [← hRH.out]; simp [hn, h1], r1.out.hb⟩)
def handB (x : HandL) (size : Int) : Bool := decide (0 ≤ x.fr) && decide (x.fr < x.to) && decide (x.to ≤ size) && wthn x.at' size && ((x.ty.toList == []) || nameOk x.ty.data.toList)
theorem handlerOk_calls (x : HandL) (size : Int) (w : World) (hy : x.ty.size ≤ 1048576) :
  Calls Tryz.prog 196 #[.agg #[.int .i64 x.fr, .int .i64 x.to, .int .i64 x.at', .string x.ty], .int .i64 size] w fun e w' => e = .returned (.bool (handB x size)) ∧ Below w.heap.size w w' := by
 have nameH : Hid (∀ W, Calls Tryz.prog 111 #[.string x.ty] W fun e w' => e = .returned (.bool (nameOk x.ty.data.toList)) ∧ Below W.heap.size W w') := fun W => implName_below x.ty W (by omega)
 have wiH : Hid (∀ W, Calls Tryz.prog 216 #[.int .i64 x.at', .int .i64 size] W fun e w' => e = .returned (.bool (wthn x.at' size)) ∧ w' = W) := fun W => within_calls _ _ W
 unfold handB
 generalize nameOk x.ty.data.toList = nm at *
 generalize wthn x.at' size = wt at *
 obtain ⟨R, hR⟩ : ∃ R, (decide (0 ≤ x.fr) && decide (x.fr < x.to) && decide (x.to ≤ size) && wt && ((x.ty.toList == []) || nm)) = R := ⟨_, rfl⟩
 rw [hR]
 have hRH : Hid (_ = R) := hR
 clear hR hy
 by_cases h1 : 0 ≤ x.fr
 ·by_cases h2 : x.fr < x.to
  ·by_cases h3 : x.to ≤ size
   ·cases wt with
    | false =>
     go_enter Tryz.func196, Tryz.ntmps196
     go_wp2_with (go_at_call 216; refine (wiH.out _).mono ?_; rintro e w2 ⟨rfl, rfl⟩)
     go_ret
     exact ⟨by rw [← hRH.out]; simp, below_1 _ _⟩
    | true =>
     cases h4 : (x.ty.toList == [])
     ·go_enter Tryz.func196, Tryz.ntmps196
      go_wp2_with (first | (go_at_call 216; refine (wiH.out _).mono ?_; rintro e w2 ⟨rfl, rfl⟩) | (go_at_call 111; refine (nameH.out _).mono ?_; rintro e w3 ⟨rfl, hb3⟩))
      go_ret
      exact ⟨by rw [← hRH.out]; simp [h1, h2, h3, h4], below_on2 (below_1 _ _) hb3⟩
     ·go_enter Tryz.func196, Tryz.ntmps196
      go_wp2_with (first | (go_at_call 216; refine (wiH.out _).mono ?_; rintro e w2 ⟨rfl, rfl⟩))
      go_ret
      exact ⟨by rw [← hRH.out]; simp [h1, h2, h3, h4], below_1 _ _⟩
   ·go_enter Tryz.func196, Tryz.ntmps196
    go_wp2
    go_ret
    exact ⟨by rw [← hRH.out, decide_eq_false (show ¬ x.to ≤ size by omega)]; simp, below_1 _ _⟩
  ·go_enter Tryz.func196, Tryz.ntmps196
   go_wp2
   go_ret
   exact ⟨by rw [← hRH.out, decide_eq_false (show ¬ x.fr < x.to by omega)]; simp, below_1 _ _⟩
 ·go_enter Tryz.func196, Tryz.ntmps196
  go_wp2
  go_ret
  exact ⟨by rw [← hRH.out, decide_eq_false (show ¬ 0 ≤ x.fr by omega)]; simp, below_1 _ _⟩
def linesB (size : Int) : Int → List LineL → Bool
 | _, [] => true
 | last, x :: r => !(decide (x.at' ≤ last) || decide (size ≤ x.at') || !betw x.n 1 1000000) && linesB size x.at' r
theorem linesOk_calls (N S : ByteArray) (f k l : Int) (a1 : Option Addr) (n1 c1 : Nat) (a2 : Option Addr) (n2 c2 : Nat) (a3 : Option Addr) (n3 c3 : Nat) (a4 : Option Addr) (n4 c4 : Nat) (w : World) (xs : List LineL) (lo hi : Nat) (hh : hi ≤ w.heap.size) (ht : ListAt LineR 2 true lo hi w (.slice a4 n4 c4) xs) (hn : xs.length = n4) (hx : n4 ≤ 1048576) (hn1 : n1 ≤ 1048576) :
  Calls Tryz.prog 198 #[methV N S f k l a1 n1 c1 a2 n2 c2 a3 n3 c3 a4 n4 c4] w fun e w' => e = .returned (.bool (linesB n1 (-1) xs)) ∧ Below w.heap.size w w' := by
 have htH : Hid (∀ W, Below w.heap.size w W → ListAt LineR 2 true lo hi W (.slice a4 n4 c4) xs) := fun W hW => ht.kept LineR.stable (Nat.le_refl _) (Nat.le_refl _) ((Same.below hW).mono (Nat.zero_le _) hh)
 have hldH : Hid ((Tryz.prog.info? 128).map (·.size) = some 2) := by show (Tryz.prog.info? 128).map (·.size) = some 2; kernel_rfl
 have hnH : Hid (xs.length = n4) := hn
 have btH : Hid (∀ n W, Calls Tryz.prog 181 #[.int .i64 n, .int .i64 1, .int .i64 1000000] W fun e w' => e = .returned (.bool (betw n 1 1000000)) ∧ w' = W) := fun n W => between_calls _ _ _ W
 obtain ⟨R, hR⟩ : ∃ R, linesB n1 (-1) xs = R := ⟨_, rfl⟩
 rw [hR]
 have hRH : Hid (linesB n1 (-1) xs = R) := hR
 clear hR ht hn hh
 go_enter Tryz.func198, Tryz.ntmps198
 go_wp2
 go_loopw [3, 9] (fun q i wr => ∃ (m : Nat) (z : Int), m ≤ n4 ∧ q = .int .i64 z ∧ i = .int .i64 m ∧ Hid (linesB n1 z (xs.drop m) = R) ∧ Hid (Rec1 w wr [.string N, .string S, .int .i64 f, .int .i64 k, .int .i64 l, .slice a1 n1 c1, .slice a2 n2 c2, .slice a3 n3 c3, .slice a4 n4 c4])) (fun _ i _ => n4 - (intOf i).toNat)
 case atStart => exact ⟨0, -1, Nat.zero_le _, rfl, rfl, hRH.out, Rec1.start rfl⟩
 case round =>
  obtain ⟨m, z, hm, rfl, rfl, hz, hB⟩ := hrel
  by_cases hlt : m < n4
  ·have hltx : m < xs.length := by rw [hnH.out]; exact hlt
   obtain ⟨b, off, row, rfl, hbb, hrl, hrr, hrx⟩ := (htH.out wr hB.out.hb).at m hltx
   have hlt' : (m : Int) < (n4 : Int) := by omega
   have hdr : Hid (xs.drop m = xs[m] :: xs.drop (m + 1)) := (List.drop_eq_getElem_cons hltx)
   obtain ⟨x, hxm⟩ : ∃ x, x = xs[m] := ⟨_, rfl⟩
   rw [← hxm] at hrx hdr
   obtain rfl : row = [.int .i64 x.at', .int .i64 x.n] := hrx
   have hrrH : Hid (wr.rangeAt b (off + m * 2) [.int .i64 x.at', .int .i64 x.n]) := hrr
   have y5 := hB.out.cell 5 _ rfl
   have hstep : Hid (R = (!(decide (x.at' ≤ z) || decide (n1 ≤ x.at') || !betw x.n 1 1000000) && linesB n1 x.at' (xs.drop (m + 1)))) := by
    have := hz.out
    rw [hdr.out] at this
    exact this.symm
   have hBn : Hid (Rec1 w (wr.alloc (.cells #[.int .i64 x.at', .int .i64 x.n] 128)) _) := hB.out.call (below_1 _ _)
   have y5' : (wr.alloc (.cells #[.int .i64 x.at', .int .i64 x.n] 128)).cell? ⟨w.heap.size, 5, none⟩ = some (.slice a1 n1 c1) := hBn.out.cell 5 _ rfl
   clear hrr hrl hxm y5
   obtain ⟨bt, hbt⟩ : ∃ bt, betw x.n 1 1000000 = bt := ⟨_, rfl⟩
   have hbtH : Hid (∀ W, Calls Tryz.prog 181 #[.int .i64 x.n, .int .i64 1, .int .i64 1000000] W fun e w' => e = .returned (.bool bt) ∧ w' = W) := fun W => by rw [← hbt]; exact btH.out x.n W
   rw [hbt] at hstep
   clear hbt
   by_cases h1 : x.at' ≤ z
   ·go_wp2_with (first | (refine wpList_load_mid rfl 128 _ rfl b (off + m * 2) (by first | rfl | (simp; done)) _ _ hrrH.out Tryz.underlying128 rfl hldH.out ?_) | (go_at_call 181; refine (hbtH.out _).mono ?_; rintro e w2 ⟨rfl, rfl⟩))
    go_ret
    exact ⟨by rw [hstep.out]; simp [h1], hBn.out.hb⟩
   ·by_cases h2 : (n1 : Int) ≤ x.at'
    ·go_wp2_with (first | (refine wpList_load_mid rfl 128 _ rfl b (off + m * 2) (by first | rfl | (simp; done)) _ _ hrrH.out Tryz.underlying128 rfl hldH.out ?_) | (go_at_call 181; refine (hbtH.out _).mono ?_; rintro e w2 ⟨rfl, rfl⟩))
     go_ret
     exact ⟨by rw [hstep.out]; simp [h2], hBn.out.hb⟩
    ·cases bt with
     | false =>
      go_wp2_with (first | (refine wpList_load_mid rfl 128 _ rfl b (off + m * 2) (by first | rfl | (simp; done)) _ _ hrrH.out Tryz.underlying128 rfl hldH.out ?_) | (go_at_call 181; refine (hbtH.out _).mono ?_; rintro e w2 ⟨rfl, rfl⟩))
      go_ret
      exact ⟨by rw [hstep.out]; simp, hBn.out.hb⟩
     | true =>
      go_wp2_with (first | (refine wpList_load_mid rfl 128 _ rfl b (off + m * 2) (by first | rfl | (simp; done)) _ _ hrrH.out Tryz.underlying128 rfl hldH.out ?_) | (go_at_call 181; refine (hbtH.out _).mono ?_; rintro e w2 ⟨rfl, rfl⟩))
      go_roundw
      case rel => exact ⟨m + 1, _, by omega, rfl, by go_num, (show _ = R by rw [hstep.out]; simp [h1, h2]), hBn⟩
      case measure => simp [intOf]; omega
  ·have hend := hz.out
   rw [List.drop_eq_nil_of_le (by have := hnH.out; omega)] at hend
   have hR : R = true := hend.symm
   subst hR
   clear hend
   go_wp2
   go_ret
   exact ⟨rfl, hB.out.hb⟩
def EnvOk (w : World) : Prop := Sh.Env w ∧ w.ShapedOpen Tryz.prog
theorem EnvOk.kept {w w' : World} (h : EnvOk w) (hb : Below w.heap.size w w') : EnvOk w' := ⟨h.1.kept hb, shaped_below h.2 hb⟩
def shapesB (ss : List ByteArray) : Bool := ss.all fun s => Sh.shapeL s.data.toList
theorem allStr_calls (v : Value) (xs : List ByteArray) (w : World) (lo hi : Nat) (hh : hi ≤ w.heap.size) (ht : ListAt StrR 1 true lo hi w v xs) (hn : xs.length ≤ 1048576) (hs : ∀ s ∈ xs, s.size ≤ 1048576) (he : EnvOk w) :
  Calls Tryz.prog 145 #[v, .func (.func 217) #[] #[]] w fun e w' => e = .returned (.bool (shapesB xs)) ∧ Below w.heap.size w w' := by
 obtain ⟨a, c, rfl⟩ := ht.form
 have htH : Hid (∀ W, Below w.heap.size w W → ListAt StrR 1 true lo hi W (.slice a xs.length c) xs) := fun W hW => ht.kept StrR.stable (Nat.le_refl _) (Nat.le_refl _) ((Same.below hW).mono (Nat.zero_le _) hh)
 have shH : Hid (∀ s ∈ xs, ∀ W, Below w.heap.size w W → Calls Tryz.prog 217 #[.string s] W fun e w' => e = .returned (.bool (Sh.shapeL s.data.toList)) ∧ Below W.heap.size W w') := fun s hx W hW => Sh.implShape_calls s W (hs s hx) (he.kept hW).1
 obtain ⟨R, hR⟩ : ∃ R, shapesB xs = R := ⟨_, rfl⟩
 rw [hR]
 have hRH : Hid (shapesB xs = R) := hR
 clear hR ht hh hs he
 go_enter Tryz.func145, Tryz.ntmps145
 go_wp2
 go_loopw [9] (fun i wr => ∃ m : Nat, m ≤ xs.length ∧ i = .int .i64 m ∧ Hid (shapesB (xs.drop m) = R) ∧ Hid (Below w.heap.size w wr)) (fun i _ => xs.length - (intOf i).toNat)
 case atStart => exact ⟨0, Nat.zero_le _, rfl, hRH.out, Below.refl _ _⟩
 case round =>
  obtain ⟨m, hm, rfl, hz, hB⟩ := hrel
  by_cases hlt : m < xs.length
  ·obtain ⟨b, off, row, rfl, hbb, hrl, hrr, hrx⟩ := (htH.out wr hB.out).at m hlt
   have hrow : row = [.string xs[m]] := hrx
   have hcell : wr.cell? ⟨b, off + m, none⟩ = some (.string xs[m]) := by simpa using hrr 0 (.string xs[m]) (by rw [hrow]; rfl)
   have hlt' : (m : Int) < (xs.length : Int) := by omega
   have hstep : Hid (R = (Sh.shapeL xs[m].data.toList && shapesB (xs.drop (m + 1)))) := by
    have := hz.out
    rw [List.drop_eq_getElem_cons hlt] at this
    exact this.symm
   have hc : Hid (Calls Tryz.prog 217 #[.string xs[m]] wr fun e w' => e = .returned (.bool (Sh.shapeL xs[m].data.toList)) ∧ Below wr.heap.size wr w') := shH.out xs[m] (List.getElem_mem hlt) wr hB.out
   obtain ⟨s, hs⟩ : ∃ s, s = xs[m] := ⟨_, rfl⟩
   rw [← hs] at hcell hstep hc
   clear hrr hrl hrx hrow hs
   obtain ⟨sb, hsb⟩ : ∃ sb, Sh.shapeL s.data.toList = sb := ⟨_, rfl⟩
   rw [hsb] at hstep hc
   clear hsb
   cases sb with
   | false =>
    go_wp2_with (go_at_call 217; refine hc.out.mono ?_; rintro e w2 ⟨rfl, hb2⟩)
    go_ret
    exact ⟨by rw [hstep.out]; rfl, below_on2 hB.out hb2⟩
   | true =>
    go_wp2_with (go_at_call 217; refine hc.out.mono ?_; rintro e w2 ⟨rfl, hb2⟩)
    go_roundw
    case rel => exact ⟨m + 1, by omega, by go_num, (show _ = R by rw [hstep.out]; rfl), below_on2 hB.out hb2⟩
    case measure => simp [intOf]; omega
  ·have hend := hz.out
   rw [List.drop_eq_nil_of_le (by omega)] at hend
   have hR : R = true := hend.symm
   subst hR
   clear hend
   go_wp2
   go_ret
   exact ⟨rfl, hB.out⟩
def frameB (size locals stack last : Int) (x : FrameL) : Bool :=
 !(decide (x.at' ≤ last) || decide (size ≤ x.at') || ((x.locs.length : Int) != locals) || decide (stack < (x.stk.length : Int)) || !shapesB x.locs || !shapesB x.stk)
def framesB (size locals stack : Int) : Int → List FrameL → Bool
 | _, [] => true
 | last, x :: r => frameB size locals stack last x && framesB size locals stack x.at' r
theorem framesOk_calls (N S : ByteArray) (f k l : Int) (a1 : Option Addr) (n1 c1 : Nat) (a2 : Option Addr) (n2 c2 : Nat) (a3 : Option Addr) (n3 c3 : Nat) (a4 : Option Addr) (n4 c4 : Nat) (w : World) (xs : List FrameL) (lo hi : Nat) (hh : hi ≤ w.heap.size) (ht : ListAt FrameR 3 true lo hi w (.slice a3 n3 c3) xs) (hn : xs.length = n3) (hx : n3 ≤ 1048576) (hn1 : n1 ≤ 1048576) (hy : ∀ y ∈ xs, y.small) (he : EnvOk w) :
  Calls Tryz.prog 197 #[methV N S f k l a1 n1 c1 a2 n2 c2 a3 n3 c3 a4 n4 c4] w fun e w' => e = .returned (.bool (framesB n1 l k (-1) xs)) ∧ Below w.heap.size w w' := by
 have htH : Hid (∀ W, Below w.heap.size w W → ListAt FrameR 3 true lo hi W (.slice a3 n3 c3) xs) := fun W hW => ht.kept FrameR.stable (Nat.le_refl _) (Nat.le_refl _) ((Same.below hW).mono (Nat.zero_le _) hh)
 have hldH : Hid ((Tryz.prog.info? 126).map (·.size) = some 3) := by show (Tryz.prog.info? 126).map (·.size) = some 3; kernel_rfl
 have hnH : Hid (xs.length = n3) := hn
 have hyH : Hid (∀ y ∈ xs, y.small) := hy
 have hhH : Hid (hi ≤ w.heap.size) := hh
 have heH : Hid (∀ W, Below w.heap.size w W → EnvOk W) := fun W hW => he.kept hW
 obtain ⟨R, hR⟩ : ∃ R, framesB n1 l k (-1) xs = R := ⟨_, rfl⟩
 rw [hR]
 have hRH : Hid (framesB n1 l k (-1) xs = R) := hR
 clear hR ht hn hh hy he
 go_enter Tryz.func197, Tryz.ntmps197
 go_wp2
 go_loopw [3, 9] (fun q i wr => ∃ (m : Nat) (z : Int), m ≤ n3 ∧ q = .int .i64 z ∧ i = .int .i64 m ∧ Hid (framesB n1 l k z (xs.drop m) = R) ∧ Hid (Rec1 w wr [.string N, .string S, .int .i64 f, .int .i64 k, .int .i64 l, .slice a1 n1 c1, .slice a2 n2 c2, .slice a3 n3 c3, .slice a4 n4 c4])) (fun _ i _ => n3 - (intOf i).toNat)
 case atStart => exact ⟨0, -1, Nat.zero_le _, rfl, rfl, hRH.out, Rec1.start rfl⟩
 case round =>
  obtain ⟨m, z, hm, rfl, rfl, hz, hB⟩ := hrel
  by_cases hlt : m < n3
  ·have hltx : m < xs.length := by rw [hnH.out]; exact hlt
   obtain ⟨b, off, row, rfl, hbb, hrl, hrr, hrx⟩ := (htH.out wr hB.out.hb).at m hltx
   have hlt' : (m : Int) < (n3 : Int) := by omega
   have hdr : Hid (xs.drop m = xs[m] :: xs.drop (m + 1)) := (List.drop_eq_getElem_cons hltx)
   have hsm := hyH.out xs[m] (List.getElem_mem hltx)
   obtain ⟨x, hxm⟩ : ∃ x, x = xs[m] := ⟨_, rfl⟩
   rw [← hxm] at hrx hdr hsm
   obtain ⟨p, q, rfl, hp, hq⟩ := hrx
   have cp : Hid (∀ W, Below wr.heap.size wr W → Calls Tryz.prog 145 #[p, .func (.func 217) #[] #[]] W fun e w' => e = .returned (.bool (shapesB x.locs)) ∧ Below W.heap.size W w') := fun W hW =>
    allStr_calls p x.locs W lo hi (by have := hhH.out; have := hB.out.hb.size; have := hW.size; omega) (hp.kept StrR.stable (Nat.le_refl _) (Nat.le_refl _) ((Same.below hW).mono (Nat.zero_le _) (by have := hhH.out; have := hB.out.hb.size; omega))) hsm.1 hsm.2.2.1 (heH.out W (below_on2 hB.out.hb hW))
   have cq : Hid (∀ W, Below wr.heap.size wr W → Calls Tryz.prog 145 #[q, .func (.func 217) #[] #[]] W fun e w' => e = .returned (.bool (shapesB x.stk)) ∧ Below W.heap.size W w') := fun W hW =>
    allStr_calls q x.stk W lo hi (by have := hhH.out; have := hB.out.hb.size; have := hW.size; omega) (hq.kept StrR.stable (Nat.le_refl _) (Nat.le_refl _) ((Same.below hW).mono (Nat.zero_le _) (by have := hhH.out; have := hB.out.hb.size; omega))) hsm.2.1 hsm.2.2.2 (heH.out W (below_on2 hB.out.hb hW))
   obtain ⟨p1, p2, rfl⟩ := hp.form
   obtain ⟨q1, q2, rfl⟩ := hq.form
   have hs1 : x.locs.length ≤ 1048576 := hsm.1
   have hs2 : x.stk.length ≤ 1048576 := hsm.2.1
   have hstep : Hid (R = (frameB n1 l k z x && framesB n1 l k x.at' (xs.drop (m + 1)))) := by
    have := hz.out
    rw [hdr.out] at this
    exact this.symm
   unfold frameB at hstep
   generalize shapesB x.locs = s1 at *
   generalize shapesB x.stk = s2 at *
   generalize x.locs.length = m1 at *
   generalize x.stk.length = m2 at *
   generalize x.at' = xa at *
   have hrrH : Hid (wr.rangeAt b (off + m * 3) [.int .i64 xa, .slice p1 m1 p2, .slice q1 m2 q2]) := hrr
   have hBn : Hid (Rec1 w (wr.alloc (.cells #[.int .i64 xa, .slice p1 m1 p2, .slice q1 m2 q2] 126)) _) := hB.out.call (below_1 _ _)
   have y5 : (wr.alloc (.cells #[.int .i64 xa, .slice p1 m1 p2, .slice q1 m2 q2] 126)).cell? ⟨w.heap.size, 5, none⟩ = some (.slice a1 n1 c1) := hBn.out.cell 5 _ rfl
   have y4 : (wr.alloc (.cells #[.int .i64 xa, .slice p1 m1 p2, .slice q1 m2 q2] 126)).cell? ⟨w.heap.size, 4, none⟩ = some (.int .i64 l) := hBn.out.cell 4 _ rfl
   have y3 : (wr.alloc (.cells #[.int .i64 xa, .slice p1 m1 p2, .slice q1 m2 q2] 126)).cell? ⟨w.heap.size, 3, none⟩ = some (.int .i64 k) := hBn.out.cell 3 _ rfl
   clear hrr hrl hxm hp hq hsm
   by_cases h1 : xa ≤ z
   ·go_wp2_with (first | (refine wpList_load_mid rfl 126 _ rfl b (off + m * 3) (by first | rfl | (simp; done)) _ _ hrrH.out Tryz.underlying126 rfl hldH.out ?_))
    go_ret
    exact ⟨by rw [hstep.out]; simp [h1], hBn.out.hb⟩
   by_cases h2 : (n1 : Int) ≤ xa
   ·go_wp2_with (first | (refine wpList_load_mid rfl 126 _ rfl b (off + m * 3) (by first | rfl | (simp; done)) _ _ hrrH.out Tryz.underlying126 rfl hldH.out ?_))
    go_ret
    exact ⟨by rw [hstep.out]; simp [h2], hBn.out.hb⟩
   rcases Bool.eq_false_or_eq_true ((m1 : Int) != l) with h3 | h3
   ·go_wp2_with (first | (refine wpList_load_mid rfl 126 _ rfl b (off + m * 3) (by first | rfl | (simp; done)) _ _ hrrH.out Tryz.underlying126 rfl hldH.out ?_))
    go_ret
    exact ⟨by rw [hstep.out, h3]; simp, hBn.out.hb⟩
   by_cases h4 : k < (m2 : Int)
   ·go_wp2_with (first | (refine wpList_load_mid rfl 126 _ rfl b (off + m * 3) (by first | rfl | (simp; done)) _ _ hrrH.out Tryz.underlying126 rfl hldH.out ?_))
    go_ret
    exact ⟨by rw [hstep.out, decide_eq_true h4]; simp, hBn.out.hb⟩
   cases s1 with
   | false =>
    go_wp2_with (first | (refine wpList_load_mid rfl 126 _ rfl b (off + m * 3) (by first | rfl | (simp; done)) _ _ hrrH.out Tryz.underlying126 rfl hldH.out ?_) | (go_at_call 145; refine (cp.out _ (below_1 _ _)).mono ?_; rintro e w2 ⟨rfl, hb2⟩))
    go_ret
    exact ⟨by rw [hstep.out]; simp, below_on2 hBn.out.hb hb2⟩
   | true =>
    have hst : Hid (∀ W, Below (wr.heap.size + 1) (wr.alloc (.cells #[.int .i64 xa, .slice p1 m1 p2, .slice q1 m2 q2] 126)) W → W.cell? ⟨wr.heap.size, 2, none⟩ = some (.slice q1 m2 q2) ∧ W.cell? ⟨wr.heap.size, 0, none⟩ = some (.int .i64 xa)) := fun W hW => by
     constructor
     ·rw [hW.cell (p := ⟨wr.heap.size, 2, none⟩) (Nat.lt_succ_self _)]; simp
     ·rw [hW.cell (p := ⟨wr.heap.size, 0, none⟩) (Nat.lt_succ_self _)]; simp
    go_wp2_with (first | (refine wpList_load_mid rfl 126 _ rfl b (off + m * 3) (by first | rfl | (simp; done)) _ _ hrrH.out Tryz.underlying126 rfl hldH.out ?_) | fail)
    refine (cp.out _ (below_1 _ _)).mono ?_
    rintro e w2 ⟨rfl, hb2⟩
    have hb2' : Below (wr.heap.size + 1) (wr.alloc (.cells #[.int .i64 xa, .slice p1 m1 p2, .slice q1 m2 q2] 126)) w2 := by simpa using hb2
    obtain ⟨z2, z0⟩ := hst.out w2 hb2'
    have r2 : Hid (Rec1 w w2 _) := hBn.out.call hb2
    have hbw : Hid (Below wr.heap.size wr w2) := below_on2 (below_1 _ _) hb2
    clear hb2 hb2'
    cases s2 with
    | false =>
     go_wp2_with (go_at_call 145; refine (cq.out _ hbw.out).mono ?_; rintro e w3 ⟨rfl, hb3⟩)
     go_ret
     exact ⟨by rw [hstep.out]; simp, below_on2 r2.out.hb hb3⟩
    | true =>
     go_wp2_with fail
     refine (cq.out _ hbw.out).mono ?_
     rintro e w3 ⟨rfl, hb3⟩
     have z0' : w3.cell? ⟨wr.heap.size, 0, none⟩ = some (.int .i64 xa) := by
      rw [hb3.cell (p := ⟨wr.heap.size, 0, none⟩) (World.block_lt_of_cell? w2 ⟨wr.heap.size, 0, none⟩ z0)]; exact z0
     have r3 : Hid (Rec1 w w3 _) := r2.out.call hb3
     clear hb3 z2 z0
     go_wp2
     go_roundw
     case rel => exact ⟨m + 1, _, by omega, rfl, by go_num, (show _ = R by rw [hstep.out, h3, decide_eq_false (show ¬ xa ≤ z by omega), decide_eq_false (show ¬ (n1 : Int) ≤ xa by omega), decide_eq_false (show ¬ k < (m2 : Int) by omega)]; simp), r3⟩
     case measure => simp [intOf]; omega
  ·have hend := hz.out
   rw [List.drop_eq_nil_of_le (by have := hnH.out; omega)] at hend
   have hR : R = true := hend.symm
   subst hR
   clear hend
   go_wp2
   go_ret
   exact ⟨rfl, hB.out.hb⟩
end Go.Proofs.YtjjccimeikkogaaGreatDoor
