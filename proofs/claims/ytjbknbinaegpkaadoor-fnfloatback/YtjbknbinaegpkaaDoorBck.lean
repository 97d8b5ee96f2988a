/- laws.FnFloatBack: the walk. -/
import Derived.Test.YtjbknbinaegpkaaDoorFbk
namespace Go.Proofs.YtjbknbinaegpkaaDoor
set_option linter.unusedVariables false
open Go.ChangeShapes Go.WideShapes Go.ChangeAt Go.RowKit

/-- impl.ReadFloat at a text that is given by its bytes. -/
theorem read_calls (l : List UInt8) (hl : l.length ≤ 1048576) (z : Int) (b : Bool) (h : ansOf (guessI l) l = (z, b)) (w : World) (he : EnvR w) :
    Calls Tryd.prog 6 #[.string (mkS l)] w fun e w' => e = .returned (.tuple #[.int .i64 z, .bool b]) ∧ Below w.heap.size w w' := by
  have := implRead_calls (mkS l) (by rw [size_mk]; exact hl) w he
  rw [mkS_list, h] at this
  exact this
theorem specRd_calls (l : List UInt8) (z : Int) (b : Bool) (h : ansOf (guessI l) l = (z, b)) (w : World) :
    Calls Tryd.prog 12 #[.string (mkS l)] w fun e w' => e = .returned (.tuple #[.int .i64 z, .bool b]) ∧ Below w.heap.size w w' := by
  have := specRead_calls (mkS l) w
  rw [mkS_list, answers_alike, h] at this
  exact this
theorem mk_eq (s : ByteArray) : mkS s.data.toList = s := by
  apply ByteArray.ext
  simp [mkS]

set_option maxRecDepth 1000000 in
set_option maxHeartbeats 16000000 in
theorem back_walk (C : Option Addr) (len cap : Nat) (D : Option Addr) (ken cap' : Nat) (zs : List Int) (w : World) (hc : Code C len w) (hd : Codx D zs ken w) (he : EnvR w) :
    Calls Tryd.prog 3 #[.slice C len cap, .slice D ken cap'] w fun e w' => e = .returned (.bool true) ∧ Below w.heap.size w w' := by
  by_cases hb1 : (1048576 : Int) < len
  · have big1 : Hid (∀ w, Calls Tryd.prog 5 #[.slice C len cap] w fun e w' => e = .returned (.bool true) ∧ w' = w) := fun w => by
      have := big_calls C len cap w
      rw [decide_eq_true hb1] at this
      exact this
    clear hc hd he
    go_enter Tryd.func3, Tryd.ntmps3
    go_wp2_with (go_at_call 5; fail)
    refine (big1.out _).mono ?_
    rintro e w' ⟨rfl, he⟩
    subst he
    go_wp2
    go_ret
    exact ⟨rfl, Below.refl _ _⟩
  have big1 : Hid (∀ w, Calls Tryd.prog 5 #[.slice C len cap] w fun e w' => e = .returned (.bool false) ∧ w' = w) := fun w => by
    have := big_calls C len cap w
    rw [decide_eq_false hb1] at this
    exact this
  by_cases hb2 : (1048576 : Int) < ken
  · have big2 : Hid (∀ w, Calls Tryd.prog 5 #[.slice D ken cap'] w fun e w' => e = .returned (.bool true) ∧ w' = w) := fun w => by
      have := big_calls D ken cap' w
      rw [decide_eq_true hb2] at this
      exact this
    clear hc hd he
    go_enter Tryd.func3, Tryd.ntmps3
    go_wp2_with (go_at_call 5; fail)
    refine (big1.out _).mono ?_
    rintro e w' ⟨rfl, he⟩
    subst he
    go_wp2_with (go_at_call 5; fail)
    refine (big2.out _).mono ?_
    rintro e w' ⟨rfl, he⟩
    subst he
    go_wp2
    go_ret
    exact ⟨rfl, Below.refl _ _⟩
  have big2 : Hid (∀ w, Calls Tryd.prog 5 #[.slice D ken cap'] w fun e w' => e = .returned (.bool false) ∧ w' = w) := fun w => by
    have := big_calls D ken cap' w
    rw [decide_eq_false hb2] at this
    exact this
  -- what the calls answer
  have oneH : Hid (Calls Tryd.prog 6 #[.string ⟨#[49, 112, 48]⟩] w fun e w' => e = .returned (.tuple #[.int .i64 4607182418800017408, .bool true]) ∧ Below w.heap.size w w') := one_calls w he
  have later : Hid (∀ W W' : World, Below w.heap.size w W → Below W.heap.size W W' → Below w.heap.size w W') := fun W W' h1 h2 => h1.trans (h2.mono h1.size)
  have showH : Hid (∀ x, I64 x → ∀ W : World, Below w.heap.size w W → Calls Tryd.prog 7 #[.int .i64 x] W fun e w' => e = .returned (.string (mkS (showL x))) ∧ Below w.heap.size w w') := fun x hx W hW => (implShow_calls x W hx.1 hx.2 (he.tab.kept hW)).mono fun e w' ⟨a, b⟩ => ⟨a, later.out _ _ hW b⟩
  have show1 : Hid (∀ W : World, Below w.heap.size w W → Calls Tryd.prog 7 #[.int .i64 4607182418800017408] W fun e w' => e = .returned (.string ⟨#[49, 112, 48]⟩) ∧ Below w.heap.size w w') := fun W hW => by
    have h := showH.out 4607182418800017408 (by unfold I64; omega) W hW
    rw [show_one] at h
    exact h
  have specShowH : Hid (∀ x, ∀ W : World, Below w.heap.size w W → Calls Tryd.prog 9 #[.int .i64 x] W fun e w' => e = .returned (.string (mkS (showL x))) ∧ Below w.heap.size w w') := fun x W hW => (specShow_calls x W).mono fun e w' ⟨a, b⟩ => ⟨a, later.out _ _ hW b⟩
  have drawH : Hid (∀ W : World, Below w.heap.size w W → Calls Tryd.prog 8 #[.slice C len cap] W fun e w' => ∃ x : Int, I64 x ∧ e = .returned (.int .i64 x) ∧ Below w.heap.size w w') := fun W hW => (drawShow_calls C len cap W (hc.later hW)).mono fun e w' ⟨x, a, b, c⟩ => ⟨x, a, b, later.out _ _ hW c⟩
  obtain ⟨T, hT, HT⟩ := readText_det zs ken
  have textH : Hid (∀ W : World, Below w.heap.size w W → Calls Tryd.prog 11 #[.slice D ken cap'] W fun e w' => e = .returned (.string T) ∧ Below w.heap.size w w') := fun W hW => (HT D cap' W (hd.later hW)).mono fun e w' ⟨a, b⟩ => ⟨a, later.out _ _ hW b⟩
  have readH : Hid (∀ (l : List UInt8) (z : Int) (b : Bool), l.length ≤ 1048576 → ansOf (guessI l) l = (z, b) → ∀ W : World, Below w.heap.size w W → Calls Tryd.prog 6 #[.string (mkS l)] W fun e w' => e = .returned (.tuple #[.int .i64 z, .bool b]) ∧ Below w.heap.size w w') := fun l z b hl h W hW => (read_calls l hl z b h W (he.kept hW)).mono fun e w' ⟨a, b⟩ => ⟨a, later.out _ _ hW b⟩
  obtain ⟨Z, F, hZF⟩ : ∃ Z F, ansOf (guessI T.data.toList) T.data.toList = (Z, F) := ⟨_, _, rfl⟩
  have rdT : Hid (∀ W : World, Below w.heap.size w W → Calls Tryd.prog 6 #[.string T] W fun e w' => e = .returned (.tuple #[.int .i64 Z, .bool F]) ∧ Below w.heap.size w w') := fun W hW => by
    have := readH.out T.data.toList Z F (by rw [toList_size]; omega) hZF W hW
    rw [mk_eq] at this
    exact this
  have spT : Hid (∀ W : World, Below w.heap.size w W → Calls Tryd.prog 12 #[.string T] W fun e w' => e = .returned (.tuple #[.int .i64 Z, .bool F]) ∧ Below w.heap.size w w') := fun W hW => by
    have := specRd_calls T.data.toList Z F hZF W
    rw [mk_eq] at this
    exact this.mono fun e w' ⟨a, b⟩ => ⟨a, later.out _ _ hW b⟩
  have hZ : Hid (F = true → I64 Z ∧ canon Z = Z) := fun hF => by
    rw [hF] at hZF
    have := read_twice hZF
    exact ⟨this.2.2, this.2.1⟩
  clear hc hd HT hZF hT he
  go_enter Tryd.func3, Tryd.ntmps3
  go_wp2_with (go_at_call 5; fail)
  refine (big1.out _).mono ?_
  rintro e w' ⟨rfl, he⟩
  subst he
  go_wp2_with (go_at_call 5; fail)
  refine (big2.out _).mono ?_
  rintro e w' ⟨rfl, he⟩
  subst he
  go_wp2_with (go_at_call 6; fail)
  refine oneH.out.mono ?_
  rintro e w1 ⟨rfl, hB1⟩
  go_wp2_with (go_at_call 7; fail)
  refine (show1.out _ hB1).mono ?_
  rintro e w2 ⟨rfl, hB2⟩
  go_wp2_with (go_at_call 8; fail)
  refine (drawH.out _ hB2).mono ?_
  rintro e w3 ⟨x, hx, rfl, hB3⟩
  have showX : Hid (∀ W : World, Below _ _ W → Calls Tryd.prog 7 #[.int .i64 x] W fun e w' => e = .returned (.string (mkS (showL x))) ∧ Below _ _ w') := showH.out x hx
  have canH : Hid (I64 (canon x)) := by
    show I64 (canon x)
    unfold canon
    split
    · unfold I64; omega
    · exact hx
  have showC : Hid (∀ W : World, Below _ _ W → Calls Tryd.prog 7 #[.int .i64 (canon x)] W fun e w' => e = .returned (.string (mkS (showL x))) ∧ Below _ _ w') := fun W hW => by
    have := showH.out (canon x) canH.out W hW
    rw [show_canon] at this
    exact this
  have readX : Hid (∀ W : World, Below _ _ W → Calls Tryd.prog 6 #[.string (mkS (showL x))] W fun e w' => e = .returned (.tuple #[.int .i64 (canon x), .bool true]) ∧ Below _ _ w') := readH.out (showL x) (canon x) true (by have := show_len x; omega) (read_back x hx.1 hx.2)
  have specX : Hid (∀ W : World, Below _ _ W → Calls Tryd.prog 9 #[.int .i64 x] W fun e w' => e = .returned (.string (mkS (showL x))) ∧ Below _ _ w') := specShowH.out x
  go_wp2_with (go_at_call 7; fail)
  refine (showX.out _ hB3).mono ?_
  rintro e w4 ⟨rfl, hB4⟩
  go_wp2_with (go_at_call 9; fail)
  refine (specX.out _ hB4).mono ?_
  rintro e w5 ⟨rfl, hB5⟩
  have hsome : (mkS (showL x)).toList.isEmpty = false := by
    rw [ByteArray.toList_eq, mkS_list]
    cases h : showL x with
    | nil => exact absurd h (show_some x)
    | cons => rfl
  have hsame : ((mkS (showL x)).toList == (mkS (showL x)).toList) = true := by simp
  have cmpH : Hid ((Cm x x 9 9) ∨ (Cm x x 9 0 ∧ canon x = x)) := by
    by_cases hn : isNo x
    · exact .inl (cm_of 9 hx hx (cmp_nan (.inl hn) _))
    · refine .inr ⟨cm_of 9 hx hx (cmp_self hn _), ?_⟩
      unfold canon
      rw [if_neg (fun h => hn ((class_no x).1 h))]
  generalize mkS (showL x) = S at *
  generalize canon x = y at *
  clear hx
  go_wp2_with (go_at_call 6; fail)
  refine (readX.out _ (by assumption)).mono ?_
  rintro e w6 ⟨rfl, hB6⟩
  go_wp2_with (go_at_call 7; fail)
  refine (showC.out _ (by assumption)).mono ?_
  rintro e w7 ⟨rfl, hB7⟩
  rcases cmpH.out with h9 | ⟨h0, hy⟩
  · have h9H : Hid (Cm x x 9 9) := h9
    clear h9 cmpH
    go_wp2_with (first | (go_at_call 10; refine (h9H.out _).mono ?_; rintro e w' ⟨rfl, he⟩; subst he) | (go_at_call 11; fail))
    refine (textH.out _ (by assumption)).mono ?_
    rintro e w8 ⟨rfl, hB8⟩
    go_wp2_with (go_at_call 6; fail)
    refine (rdT.out _ (by assumption)).mono ?_
    rintro e w9 ⟨rfl, hB9⟩
    go_wp2_with (go_at_call 11; fail)
    refine (textH.out _ (by assumption)).mono ?_
    rintro e w10 ⟨rfl, hB10⟩
    go_wp2_with (go_at_call 12; fail)
    refine (spT.out _ (by assumption)).mono ?_
    rintro e w11 ⟨rfl, hB11⟩
    cases F
    · go_wp2
      go_ret
      exact ⟨rfl, by assumption⟩
    · obtain ⟨hZ1, hZ2⟩ := hZ.out rfl
      have showZ : Hid (∀ W : World, Below _ _ W → Calls Tryd.prog 7 #[.int .i64 Z] W fun e w' => e = .returned (.string (mkS (showL Z))) ∧ Below _ _ w') := showH.out Z hZ1
      have readZ : Hid (∀ W : World, Below _ _ W → Calls Tryd.prog 6 #[.string (mkS (showL Z))] W fun e w' => e = .returned (.tuple #[.int .i64 Z, .bool true]) ∧ Below _ _ w') := readH.out (showL Z) Z true (by have := show_len Z; omega) (by rw [read_back Z hZ1.1 hZ1.2, hZ2])
      generalize mkS (showL Z) = SZ at *
      clear hZ1 hZ2
      go_wp2_with (go_at_call 7; fail)
      refine (showZ.out _ (by assumption)).mono ?_
      rintro e w12 ⟨rfl, hB12⟩
      go_wp2_with (go_at_call 6; fail)
      refine (readZ.out _ (by assumption)).mono ?_
      rintro e w13 ⟨rfl, hB13⟩
      go_wp2
      go_ret
      exact ⟨rfl, by assumption⟩
  · have h0H : Hid (Cm x x 9 0) := h0
    subst hy
    clear h0 cmpH
    go_wp2_with (first | (go_at_call 10; refine (h0H.out _).mono ?_; rintro e w' ⟨rfl, he⟩; subst he) | (go_at_call 11; fail))
    refine (textH.out _ (by assumption)).mono ?_
    rintro e w8 ⟨rfl, hB8⟩
    go_wp2_with (go_at_call 6; fail)
    refine (rdT.out _ (by assumption)).mono ?_
    rintro e w9 ⟨rfl, hB9⟩
    go_wp2_with (go_at_call 11; fail)
    refine (textH.out _ (by assumption)).mono ?_
    rintro e w10 ⟨rfl, hB10⟩
    go_wp2_with (go_at_call 12; fail)
    refine (spT.out _ (by assumption)).mono ?_
    rintro e w11 ⟨rfl, hB11⟩
    cases F
    · go_wp2
      go_ret
      exact ⟨rfl, by assumption⟩
    · obtain ⟨hZ1, hZ2⟩ := hZ.out rfl
      have showZ : Hid (∀ W : World, Below _ _ W → Calls Tryd.prog 7 #[.int .i64 Z] W fun e w' => e = .returned (.string (mkS (showL Z))) ∧ Below _ _ w') := showH.out Z hZ1
      have readZ : Hid (∀ W : World, Below _ _ W → Calls Tryd.prog 6 #[.string (mkS (showL Z))] W fun e w' => e = .returned (.tuple #[.int .i64 Z, .bool true]) ∧ Below _ _ w') := readH.out (showL Z) Z true (by have := show_len Z; omega) (by rw [read_back Z hZ1.1 hZ1.2, hZ2])
      generalize mkS (showL Z) = SZ at *
      clear hZ1 hZ2
      go_wp2_with (go_at_call 7; fail)
      refine (showZ.out _ (by assumption)).mono ?_
      rintro e w12 ⟨rfl, hB12⟩
      go_wp2_with (go_at_call 6; fail)
      refine (readZ.out _ (by assumption)).mono ?_
      rintro e w13 ⟨rfl, hB13⟩
      go_wp2
      go_ret
      exact ⟨rfl, by assumption⟩
end Go.Proofs.YtjbknbinaegpkaaDoor
