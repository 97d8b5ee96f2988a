/- impl.plainKind, impl.KindOf, impl.TypeOk: what each answers at any text. -/
import Derived.Test.YtkfbgghkcojdpaaDoorType
namespace Go.Proofs.YtkfbgghkcojdpaaDoor
open Go.RowKit

theorem implName_below (s : ByteArray) (w : World) (hs : s.size ≤ 9223372036854775807) : Calls Tryd.prog 31 #[.string s] w fun e w' => e = .returned (.bool (nameOk s.data.toList)) ∧ Below w.heap.size w w' := by
  refine (implName_calls s w hs).mono ?_
  rintro e w' ⟨rfl, rfl | ⟨pos, rfl⟩⟩
  · exact ⟨rfl, Below.refl _ _⟩
  · exact ⟨rfl, (Below.refl _ _).alloc (Nat.le_refl _) _⟩

theorem hasPrefix_at (r : List UInt8) : Lib.hasPrefix (64 :: r) [64] = true := by simp [Lib.hasPrefix]
theorem hasPrefix_other {l : List UInt8} (h : ∀ r, l ≠ 64 :: r) : Lib.hasPrefix l [64] = false := by
  cases l with
  | nil => rfl
  | cons b r =>
    have : b ≠ 64 := fun e => h r (by rw [e])
    simp [Lib.hasPrefix, List.isPrefixOf, Ne.symm this]

set_option maxRecDepth 1000000 in
set_option maxHeartbeats 4000000 in
theorem plainKind_calls (s : ByteArray) (w : World) (hs : s.size ≤ 9223372036854775807) : Calls Tryd.prog 17 #[.string s] w fun e w' => e = .returned (.int .i64 (plainL s.data.toList)) ∧ Below w.heap.size w w' := by
  rcases form s.data.toList with h | h | h | ⟨r, h⟩ | ⟨h1, h2, h3, h5⟩
  · have e1 : (s.toList == [73]) = true := by rw [ByteArray.toList_eq, h]; rfl
    have hr : plainL s.data.toList = 1 := by rw [h]; rfl
    clear h
    go_enter Tryd.func17, Tryd.ntmps17
    go_wp2
    go_ret; exact ⟨by first | rfl | (rw [hr]; rfl), Below.refl _ _⟩
  · have e1 : (s.toList == [73]) = false := by rw [ByteArray.toList_eq, h]; rfl
    have e2 : (s.toList == [74]) = true := by rw [ByteArray.toList_eq, h]; rfl
    have hr : plainL s.data.toList = 2 := by rw [h]; rfl
    clear h
    go_enter Tryd.func17, Tryd.ntmps17
    go_wp2
    go_ret; exact ⟨by first | rfl | (rw [hr]; rfl), Below.refl _ _⟩
  · have e1 : (s.toList == [73]) = false := by rw [ByteArray.toList_eq, h]; rfl
    have e2 : (s.toList == [74]) = false := by rw [ByteArray.toList_eq, h]; rfl
    have e3 : (s.toList == [68]) = true := by rw [ByteArray.toList_eq, h]; rfl
    have hr : plainL s.data.toList = 3 := by rw [h]; rfl
    clear h
    go_enter Tryd.func17, Tryd.ntmps17
    go_wp2
    go_ret; exact ⟨by first | rfl | (rw [hr]; rfl), Below.refl _ _⟩
  · have e1 : (s.toList == [73]) = false := by rw [ByteArray.toList_eq, h]; simp
    have e2 : (s.toList == [74]) = false := by rw [ByteArray.toList_eq, h]; simp
    have e3 : (s.toList == [68]) = false := by rw [ByteArray.toList_eq, h]; simp
    obtain ⟨R, hR⟩ : ∃ R : ByteArray, R = ⟨r.toArray⟩ := ⟨_, rfl⟩
    have hRl : R.data.toList = r := by rw [hR]
    have hRs : R.size ≤ 9223372036854775807 := by
      rw [← toList_size, hRl]
      have := toList_size s
      rw [h] at this
      simp at this; omega
    have cut : ∀ w, Calls Tryd.prog 18 #[.string s, .string ⟨#[64]⟩] w fun e w' => e = .returned (.tuple #[.string R, .bool true]) ∧ w' = w := by
      intro w
      refine (Tryd.strings_CutPrefix s ⟨#[64]⟩ w).mono ?_
      rintro e w' ⟨rfl, rfl⟩
      refine ⟨?_, rfl⟩
      rw [h, hR, Lib.trimPrefix, hasPrefix_at]
      rfl
    have cutH : Hid (∀ w, Calls Tryd.prog 18 #[.string s, .string ⟨#[64]⟩] w fun e w' => e = .returned (.tuple #[.string R, .bool true]) ∧ w' = w) := cut
    cases hn : nameOk R.data.toList with
    | true =>
      have hr : plainL s.data.toList = 4 := by rw [h, plainL_at, ← hRl, hn]; rfl
      clear h hR hRl cut
      go_enter Tryd.func17, Tryd.ntmps17
      go_wp2_with (first
        | (go_at_call 18; refine (cutH.out _).mono ?_; rintro e w' ⟨rfl, he⟩; subst he)
        | (go_at_call 31; refine (implName_below _ _ hRs).mono ?_; rintro e w2 ⟨rfl, hb⟩))
      all_goals (go_ret; exact ⟨by first | rfl | (rw [hr]; rfl), by assumption⟩)
    | false =>
      have hr : plainL s.data.toList = 0 := by rw [h, plainL_at, ← hRl, hn]; rfl
      clear h hR hRl cut
      go_enter Tryd.func17, Tryd.ntmps17
      go_wp2_with (first
        | (go_at_call 18; refine (cutH.out _).mono ?_; rintro e w' ⟨rfl, he⟩; subst he)
        | (go_at_call 31; refine (implName_below _ _ hRs).mono ?_; rintro e w2 ⟨rfl, hb⟩))
      all_goals (go_ret; exact ⟨by first | rfl | (rw [hr]; rfl), by assumption⟩)
  · have e1 : (s.toList == [73]) = false := by rw [ByteArray.toList_eq]; simpa using h1
    have e2 : (s.toList == [74]) = false := by rw [ByteArray.toList_eq]; simpa using h2
    have e3 : (s.toList == [68]) = false := by rw [ByteArray.toList_eq]; simpa using h3
    have hr : plainL s.data.toList = 0 := plainL_other h1 h2 h3 h5
    have cutH : Hid (∀ w, Calls Tryd.prog 18 #[.string s, .string ⟨#[64]⟩] w fun e w' => ∃ R, e = .returned (.tuple #[.string R, .bool false]) ∧ w' = w) := by
      intro w
      refine (Tryd.strings_CutPrefix s ⟨#[64]⟩ w).mono ?_
      rintro e w' ⟨rfl, rfl⟩
      refine ⟨⟨(Lib.trimPrefix s.data.toList [64]).toArray⟩, ?_, rfl⟩
      rw [← hasPrefix_other h5]
    clear h1 h2 h3 h5
    go_enter Tryd.func17, Tryd.ntmps17
    go_wp2_with (first
      | (go_at_call 18; refine (cutH.out _).mono ?_; rintro e w' ⟨R, rfl, he⟩; subst he))
    all_goals (go_ret; exact ⟨by first | rfl | (rw [hr]; rfl), Below.refl _ _⟩)

theorem trim_drop : ∀ l : List UInt8, Lib.trimLeftB l 91 = l.drop (dimsL l)
  | [] => rfl
  | b :: t => by
    have ih := trim_drop t
    unfold Lib.trimLeftB at ih ⊢
    by_cases h : b = 91
    · simp [dimsL, h, List.dropWhile, ih]
    · have : (b == 91) = false := by simpa using h
      simp [dimsL, h, List.dropWhile, this]

set_option maxRecDepth 1000000 in
set_option maxHeartbeats 4000000 in
theorem implKind_calls (s : ByteArray) (w : World) (hs : s.size ≤ 9223372036854775807) : Calls Tryd.prog 11 #[.string s] w fun e w' => e = .returned (.int .i64 (kindL s.data.toList)) ∧ Below w.heap.size w w' := by
  have hd := dimsL_le s.data.toList
  obtain ⟨E, hE⟩ : ∃ E : ByteArray, E = ⟨(s.data.toList.drop (dimsL s.data.toList)).toArray⟩ := ⟨_, rfl⟩
  have hEl : E.data.toList = s.data.toList.drop (dimsL s.data.toList) := by rw [hE]
  have hEs : E.size + dimsL s.data.toList = s.size := by
    rw [← toList_size E, hEl, List.length_drop, ← toList_size s]; omega
  have hk : Hid (kindL s.data.toList = if plainL E.data.toList = 0 ∨ 4 < dimsL s.data.toList then 0 else if 0 < dimsL s.data.toList then 4 else plainL E.data.toList) := by
    show _ = _
    rw [hEl]
    unfold kindL
    by_cases h0 : 0 < dimsL s.data.toList
    · simp [h0]
    · have : dimsL s.data.toList = 0 := by omega
      rw [this]; simp
  have trimH : Hid (∀ w, Calls Tryd.prog 16 #[.string s, .string ⟨#[91]⟩] w fun e w' => e = .returned (.string E) ∧ w' = w) := by
    intro w
    refine (Tryd.strings_TrimLeft_one s 91 (by decide) w).mono ?_
    rintro e w' ⟨rfl, rfl⟩
    exact ⟨by rw [trim_drop, hE], rfl⟩
  have hEb : E.size ≤ 9223372036854775807 := by omega
  generalize dimsL s.data.toList = d at *
  have plainH : Hid (∀ w, Calls Tryd.prog 17 #[.string E] w fun e w' => e = .returned (.int .i64 (plainL E.data.toList)) ∧ Below w.heap.size w w') := fun w => plainKind_calls E w hEb
  generalize plainL E.data.toList = k at *
  generalize kindL s.data.toList = r at *
  have hsub : (s.size : Int) - E.size = d := by omega
  have hwr : wrap64 (d : Int) = d := by unfold wrap64; omega
  clear hE hEl hs hEb hEs
  by_cases h0 : k = 0
  · have hr : r = 0 := by rw [hk.out]; simp [h0]
    clear hk
    go_enter Tryd.func11, Tryd.ntmps11
    go_wp2_with (first
      | (go_at_call 16; refine (trimH.out _).mono ?_; rintro e w' ⟨rfl, he⟩; subst he)
      | (go_at_call 17; refine (plainH.out _).mono ?_; rintro e w2 ⟨rfl, hb⟩))
    all_goals (go_ret; exact ⟨by first | rfl | (rw [hr]; rfl), by assumption⟩)
  have h0' : (k == 0) = false := by simpa using h0
  by_cases h4 : (4 : Int) < d
  · have hr : r = 0 := by rw [hk.out]; simp [show 4 < d by omega]
    clear hk
    go_enter Tryd.func11, Tryd.ntmps11
    go_wp2_with (first
      | (go_at_call 16; refine (trimH.out _).mono ?_; rintro e w' ⟨rfl, he⟩; subst he)
      | (go_at_call 17; refine (plainH.out _).mono ?_; rintro e w2 ⟨rfl, hb⟩))
    all_goals (go_ret; exact ⟨by first | rfl | (rw [hr]; rfl), by assumption⟩)
  by_cases hd0 : (0 : Int) < d
  · have hr : r = 4 := by rw [hk.out]; simp [h0, show ¬ 4 < d by omega, show 0 < d by omega]
    clear hk
    go_enter Tryd.func11, Tryd.ntmps11
    go_wp2_with (first
      | (go_at_call 16; refine (trimH.out _).mono ?_; rintro e w' ⟨rfl, he⟩; subst he)
      | (go_at_call 17; refine (plainH.out _).mono ?_; rintro e w2 ⟨rfl, hb⟩))
    all_goals (go_ret; exact ⟨by first | rfl | (rw [hr]; rfl), by assumption⟩)
  · have hr : r = k := by rw [hk.out]; simp [h0, show ¬ 4 < d by omega, show ¬ 0 < d by omega]
    clear hk
    go_enter Tryd.func11, Tryd.ntmps11
    go_wp2_with (first
      | (go_at_call 16; refine (trimH.out _).mono ?_; rintro e w' ⟨rfl, he⟩; subst he)
      | (go_at_call 17; refine (plainH.out _).mono ?_; rintro e w2 ⟨rfl, hb⟩))
    all_goals (go_ret; exact ⟨by first | rfl | (rw [hr]; rfl), by assumption⟩)

set_option maxRecDepth 1000000 in
theorem implType_calls (s : ByteArray) (w : World) (hs : s.size ≤ 9223372036854775807) : Calls Tryd.prog 10 #[.string s] w fun e w' => e = .returned (.bool (typeL s.data.toList)) ∧ Below w.heap.size w w' := by
  unfold typeL
  have kindH : Hid (∀ w, Calls Tryd.prog 11 #[.string s] w fun e w' => e = .returned (.int .i64 (kindL s.data.toList)) ∧ Below w.heap.size w w') := fun w => implKind_calls s w hs
  generalize kindL s.data.toList = k at *
  go_enter Tryd.func10, Tryd.ntmps10
  go_wp2_with (first
    | (go_at_call 11; refine (kindH.out _).mono ?_; rintro e w2 ⟨rfl, hb⟩))
  all_goals (go_ret; exact ⟨rfl, by assumption⟩)
end Go.Proofs.YtkfbgghkcojdpaaDoor
