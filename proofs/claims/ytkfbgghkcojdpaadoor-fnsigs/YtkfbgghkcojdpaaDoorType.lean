/- Types and kinds as lists of bytes; spec.l2Dims, spec.TypeOk, spec.KindOf: what each answers at any text. -/
import Derived.Test.YtkfbgghkcojdpaaDoorName2
import Derived.Test.YtkfbgghkcojdpaaDoorShelf
import Derived.WalkSpells
namespace Go.Proofs.YtkfbgghkcojdpaaDoor
open Go.RowKit

def dimsL : List UInt8 → Nat
  | [] => 0
  | b :: t => if b = 91 then dimsL t + 1 else 0
def plainL (l : List UInt8) : Int := match l with
  | [73] => 1
  | [74] => 2
  | [68] => 3
  | 64 :: r => if nameOk r then 4 else 0
  | _ => 0
def kindL (l : List UInt8) : Int := if plainL (l.drop (dimsL l)) = 0 ∨ 4 < dimsL l then 0 else if 0 < dimsL l then 4 else plainL l
def typeL (l : List UInt8) : Bool := kindL l != 0

theorem dimsL_le : ∀ l : List UInt8, dimsL l ≤ l.length
  | [] => Nat.le_refl _
  | b :: t => by
    have := dimsL_le t
    simp only [dimsL, List.length_cons]
    split <;> omega
theorem dims_step {l : List UInt8} {i : Nat} (h : i < l.length) (ha : (l.take i).all (· == 91) = true) (hb : l[i] = 91) : (l.take (i + 1)).all (· == 91) = true := by
  rw [List.take_succ_eq_append_getElem h, List.all_append, ha]; simp [hb]
theorem dims_stop : ∀ {l : List UInt8} {i : Nat}, i ≤ l.length → (l.take i).all (· == 91) = true → (∀ h : i < l.length, l[i] ≠ 91) → dimsL l = i
  | [], i, h, _, _ => by simp at h; simp [dimsL, h]
  | b :: t, 0, _, _, hb => by
    have := hb (by simp)
    simp at this
    simp [dimsL, this]
  | b :: t, i + 1, h, ha, hb => by
    simp only [List.take_succ_cons, List.all_cons, Bool.and_eq_true, beq_iff_eq] at ha
    have ih := dims_stop (l := t) (i := i) (by simpa using h) (by simpa using ha.2) (fun h' => hb (Nat.succ_lt_succ h'))
    simp [dimsL, ha.1, ih]

set_option maxRecDepth 1000000 in
set_option maxHeartbeats 4000000 in
theorem specDims_calls (s : ByteArray) (w : World) (hs : s.size ≤ 9223372036854775807) : Calls Tryd.prog 40 #[.string s] w fun e w' => e = .returned (.int .i64 (dimsL s.data.toList)) ∧ w' = w := by
  go_enter Tryd.func40, Tryd.ntmps40
  go_wp2
  go_loop [3] (fun v => ∃ i : Nat, v = .int .i64 i ∧ i ≤ s.size ∧ Hid ((s.data.toList.take i).all (· == 91) = true)) (fun v => s.size - (intOf v).toNat)
  case atStart => exact ⟨0, rfl, by omega, rfl⟩
  case round =>
    obtain ⟨i, rfl, hi, hall⟩ := hrel
    by_cases hlt : i < s.size
    · have hi0 : (0 : Int) ≤ i := by omega
      have hi1 : (i : Int) < s.size := by omega
      by_cases hb : (s[i]'hlt) = 91
      · have hb' : (((s[i]'hlt).toNat : Int) == 91) = true := by rw [hb]; rfl
        go_wp2
        go_round
        case rel =>
          exact ⟨i + 1, by simp, by omega, dims_step (by rw [toList_size]; exact hlt) hall.out (by rw [← get_toList s i hlt]; exact hb)⟩
        case measure => simp [intOf]; omega
      · have hb' : (((s[i]'hlt).toNat : Int) == 91) = false := by
          rw [beq_eq_false_iff_ne]; intro h
          exact hb (UInt8.toNat_inj.1 (by have := h; simp only [UInt8.reduceToNat]; omega))
        have e := dims_stop (l := s.data.toList) (i := i) (by rw [toList_size]; exact hi) hall.out (fun _ => by rw [← get_toList s i hlt]; exact hb)
        go_wp2
        go_ret
        exact ⟨by first | rfl | (rw [e]; rfl), rfl⟩
    · have hi1 : ¬ (i : Int) < s.size := by omega
      have e := dims_stop (l := s.data.toList) (i := i) (by rw [toList_size]; exact hi) hall.out (fun h => absurd h (by rw [toList_size]; omega))
      go_wp2
      go_ret
      exact ⟨by first | rfl | (rw [e]; rfl), rfl⟩

theorem extract_from (s : ByteArray) (n : Nat) : (s.extract n s.size).data.toList = s.data.toList.drop n := by
  rw [ByteArray.data_extract, Array.toList_extract, List.extract_eq_take_drop]
  apply List.take_of_length_le
  rw [List.length_drop, toList_size]; exact Nat.le_refl _

theorem plainL_other {l : List UInt8} (h1 : l ≠ [73]) (h2 : l ≠ [74]) (h3 : l ≠ [68]) (h4 : ∀ r, l ≠ 64 :: r) : plainL l = 0 := by
  unfold plainL
  split <;> simp_all
theorem plainL_at (r : List UInt8) : plainL (64 :: r) = if nameOk r then 4 else 0 := by
  simp [plainL]
theorem typeL_eq (l : List UInt8) : typeL l = (decide (dimsL l ≤ 4) && plainL (l.drop (dimsL l)) != 0) := by
  unfold typeL kindL
  by_cases h4 : 4 < dimsL l
  · simp [h4, Nat.not_le.2 h4]
  · by_cases hp : plainL (l.drop (dimsL l)) = 0
    · simp [hp]
    · by_cases h0 : 0 < dimsL l
      · simp [h0, h4, hp]; omega
      · have : dimsL l = 0 := by omega
        rw [this] at hp ⊢
        simp at hp
        simp [hp]

inductive Form (l : List UInt8) : Prop
  | i (h : l = [73]) | j (h : l = [74]) | d (h : l = [68]) | at (r : List UInt8) (h : l = 64 :: r) | other (h1 : l ≠ [73]) (h2 : l ≠ [74]) (h3 : l ≠ [68]) (h4 : ∀ r, l ≠ 64 :: r)
theorem form (l : List UInt8) : Form l := by
  by_cases h1 : l = [73]
  · exact .i h1
  by_cases h2 : l = [74]
  · exact .j h2
  by_cases h3 : l = [68]
  · exact .d h3
  by_cases h4 : ∃ r, l = 64 :: r
  · obtain ⟨r, h⟩ := h4; exact .at r h
  · exact .other h1 h2 h3 (fun r h => h4 ⟨r, h⟩)

theorem head_ne {l : List UInt8} (h5 : ∀ r, l ≠ 64 :: r) (hl : 0 < l.length) (h : (l[0].toNat : Int) = 64) : False := by
  cases l with
  | nil => simp at hl
  | cons b r =>
    refine h5 r (congrArg (· :: r) (UInt8.toNat_inj.1 ?_))
    simp only [List.getElem_cons_zero] at h
    simp only [UInt8.reduceToNat]; omega

set_option maxRecDepth 1000000 in
set_option maxHeartbeats 4000000 in
theorem specType_calls (s : ByteArray) (w : World) (hs : s.size ≤ 9223372036854775807) : Calls Tryd.prog 26 #[.string s] w fun e w' => e = .returned (.bool (typeL s.data.toList)) ∧ w' = w := by
  have hd : dimsL s.data.toList ≤ s.size := by rw [← toList_size s]; exact dimsL_le _
  have ht := typeL_eq s.data.toList
  rw [← extract_from] at ht
  obtain ⟨T, hT⟩ : ∃ T, s.extract (dimsL s.data.toList) s.size = T := ⟨_, rfl⟩
  have hTs : T.size ≤ 9223372036854775807 := by rw [← hT, ByteArray.size_extract]; omega
  rw [hT] at ht
  obtain ⟨n, hn⟩ : ∃ n, dimsL s.data.toList = n := ⟨_, rfl⟩
  rw [hn] at ht hd hT
  have htH : Hid (typeL s.data.toList = (decide (n ≤ 4) && plainL T.data.toList != 0)) := ht
  clear ht
  have dims := fun w => specDims_calls s w hs
  rw [hn] at dims
  have dimsH : Hid (∀ w, Calls Tryd.prog 40 #[.string s] w fun e w' => e = .returned (.int .i64 n) ∧ w' = w) := dims
  clear dims hn
  by_cases h4 : (n : Int) ≤ 4
  · have hn4 : n ≤ 4 := by omega
    rcases form T.data.toList with h | h | h | ⟨r, h⟩ | ⟨h1, h2, h3, h5⟩
    · have e1 : (T.toList == [73]) = true := by rw [ByteArray.toList_eq, h]; rfl
      have hr : typeL s.data.toList = true := by rw [htH.out, h]; simp [hn4, plainL]
      go_enter Tryd.func26, Tryd.ntmps26
      go_wp2_with (first
        | (go_at_call 40; refine (dimsH.out _).mono ?_; rintro e w' ⟨rfl, he⟩; subst he)
        | (go_at_call 41; refine (specName_calls _ _ (by assumption)).mono ?_; rintro e w' ⟨rfl, he⟩; subst he))
      go_ret; exact ⟨by first | rfl | (rw [hr]; rfl), rfl⟩
    · have e1 : (T.toList == [73]) = false := by rw [ByteArray.toList_eq, h]; rfl
      have e2 : (T.toList == [74]) = true := by rw [ByteArray.toList_eq, h]; rfl
      have hr : typeL s.data.toList = true := by rw [htH.out, h]; simp [hn4, plainL]
      go_enter Tryd.func26, Tryd.ntmps26
      go_wp2_with (first
        | (go_at_call 40; refine (dimsH.out _).mono ?_; rintro e w' ⟨rfl, he⟩; subst he)
        | (go_at_call 41; refine (specName_calls _ _ (by assumption)).mono ?_; rintro e w' ⟨rfl, he⟩; subst he))
      go_ret; exact ⟨by first | rfl | (rw [hr]; rfl), rfl⟩
    · have e1 : (T.toList == [73]) = false := by rw [ByteArray.toList_eq, h]; rfl
      have e2 : (T.toList == [74]) = false := by rw [ByteArray.toList_eq, h]; rfl
      have e3 : (T.toList == [68]) = true := by rw [ByteArray.toList_eq, h]; rfl
      have hr : typeL s.data.toList = true := by rw [htH.out, h]; simp [hn4, plainL]
      go_enter Tryd.func26, Tryd.ntmps26
      go_wp2_with (first
        | (go_at_call 40; refine (dimsH.out _).mono ?_; rintro e w' ⟨rfl, he⟩; subst he)
        | (go_at_call 41; refine (specName_calls _ _ (by assumption)).mono ?_; rintro e w' ⟨rfl, he⟩; subst he))
      go_ret; exact ⟨by first | rfl | (rw [hr]; rfl), rfl⟩
    · have e1 : (T.toList == [73]) = false := by rw [ByteArray.toList_eq, h]; simp
      have e2 : (T.toList == [74]) = false := by rw [ByteArray.toList_eq, h]; simp
      have e3 : (T.toList == [68]) = false := by rw [ByteArray.toList_eq, h]; simp
      have hz : 0 < T.size := by rw [← toList_size, h]; simp
      have e4 : (0 : Int) < T.size := by omega
      have e5 : ((T[0]'hz).toNat : Int) = 64 := by rw [get_toList T 0 hz]; simp [h]
      have hx : (1 : Int) ≤ T.size := by omega
      obtain ⟨R, hR⟩ : ∃ R, T.extract 1 T.size = R := ⟨_, rfl⟩
      have hxs : R.size ≤ 9223372036854775807 := by rw [← hR, ByteArray.size_extract]; omega
      have hr : nameOk R.data.toList = typeL s.data.toList := by
        rw [htH.out, ← hR, extract_from, h, plainL_at]; simp [hn4]
        cases nameOk r <;> simp
      clear h
      go_enter Tryd.func26, Tryd.ntmps26
      go_wp2_with (first
        | (go_at_call 40; refine (dimsH.out _).mono ?_; rintro e w' ⟨rfl, he⟩; subst he)
        | (go_at_call 41; refine (specName_calls _ _ (by assumption)).mono ?_; rintro e w' ⟨rfl, he⟩; subst he))
      all_goals (go_ret; exact ⟨by first | (rw [← hr]; rfl) | rfl, rfl⟩)
    · have e1 : (T.toList == [73]) = false := by rw [ByteArray.toList_eq]; simpa using h1
      have e2 : (T.toList == [74]) = false := by rw [ByteArray.toList_eq]; simpa using h2
      have e3 : (T.toList == [68]) = false := by rw [ByteArray.toList_eq]; simpa using h3
      have hr : typeL s.data.toList = false := by rw [htH.out, plainL_other h1 h2 h3 h5]; simp
      by_cases hz : 0 < T.size
      · have e4 : (0 : Int) < T.size := by omega
        have e5 : (((T[0]'hz).toNat : Int) == 64) = false := by
          rw [beq_eq_false_iff_ne]; intro h
          rw [get_toList T 0 hz] at h
          exact head_ne h5 _ h
        go_enter Tryd.func26, Tryd.ntmps26
        go_wp2_with (first
          | (go_at_call 40; refine (dimsH.out _).mono ?_; rintro e w' ⟨rfl, he⟩; subst he)
          | (go_at_call 41; refine (specName_calls _ _ (by assumption)).mono ?_; rintro e w' ⟨rfl, he⟩; subst he))
        all_goals (go_ret; exact ⟨by first | rfl | (rw [hr]; rfl), rfl⟩)
      · have e4 : ¬ (0 : Int) < T.size := by omega
        go_enter Tryd.func26, Tryd.ntmps26
        go_wp2_with (first
          | (go_at_call 40; refine (dimsH.out _).mono ?_; rintro e w' ⟨rfl, he⟩; subst he)
          | (go_at_call 41; refine (specName_calls _ _ (by assumption)).mono ?_; rintro e w' ⟨rfl, he⟩; subst he))
        all_goals (go_ret; exact ⟨by first | rfl | (rw [hr]; rfl), rfl⟩)
  · have hr : typeL s.data.toList = false := by rw [htH.out]; simp; omega
    go_enter Tryd.func26, Tryd.ntmps26
    go_wp2_with (first
      | (go_at_call 40; refine (dimsH.out _).mono ?_; rintro e w' ⟨rfl, he⟩; subst he)
      | (go_at_call 41; refine (specName_calls _ _ (by assumption)).mono ?_; rintro e w' ⟨rfl, he⟩; subst he))
    all_goals (go_ret; exact ⟨by first | rfl | (rw [hr]; rfl), rfl⟩)

theorem kindL_i : kindL [73] = 1 := by decide
theorem kindL_j : kindL [74] = 2 := by decide
theorem kindL_d : kindL [68] = 3 := by decide
theorem plainL_cases (l : List UInt8) (h1 : l ≠ [73]) (h2 : l ≠ [74]) (h3 : l ≠ [68]) : plainL l = 0 ∨ plainL l = 4 := by
  rcases form l with h | h | h | ⟨r, h⟩ | ⟨h1, h2, h3, h5⟩
  · exact absurd h h1
  · exact absurd h h2
  · exact absurd h h3
  · rw [h, plainL_at]; split <;> simp
  · exact .inl (plainL_other h1 h2 h3 h5)
theorem kindL_ref {l : List UInt8} (h1 : l ≠ [73]) (h2 : l ≠ [74]) (h3 : l ≠ [68]) : kindL l = if typeL l then 4 else 0 := by
  unfold typeL
  have : kindL l = 0 ∨ kindL l = 4 := by
    unfold kindL
    split
    · exact .inl rfl
    · split
      · exact .inr rfl
      · exact plainL_cases l h1 h2 h3
  rcases this with h | h <;> simp [h]

end Go.Proofs.YtkfbgghkcojdpaaDoor
