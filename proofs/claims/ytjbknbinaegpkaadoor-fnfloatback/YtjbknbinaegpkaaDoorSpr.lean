/- spec.ReadFloat at a text that begins with a minus. -/
import Derived.Test.YtjbknbinaegpkaaDoorSpq
namespace Go.Proofs.YtjbknbinaegpkaaDoor
set_option linter.unusedVariables false
open Go.ChangeShapes Go.WideShapes Go.ChangeAt Go.RowKit

set_option maxRecDepth 1000000 in
set_option maxHeartbeats 8000000 in
theorem specMinus_nan (s T : ByteArray) (w : World) (h4 : ¬ (40 : Int) < s.size) (hz : 0 < s.size) (e1 : (0 : Int) < s.size) (e2 : (((s[0]'hz).toNat : Int) == 45) = true) (hT : s.extract 1 s.size = T) (hTs : T.size ≤ 40) (h1 : (T.toList == [110, 97, 110]) = true) : Calls Tryd.prog 12 #[.string s] w fun e w' => e = .returned (.tuple #[.int .i64 (ansOf (some 9221120237041090560) s.data.toList).1, .bool (ansOf (some 9221120237041090560) s.data.toList).2]) ∧ Below w.heap.size w w' := by
  have showH : Hid (∀ x w, Calls Tryd.prog 9 #[.int .i64 x] w fun e w' => e = .returned (.string (mkS (showL x))) ∧ Below w.heap.size w w') := fun x w => specShow_calls x w
  rw [ans_some]
  by_cases hx : showL 9221120237041090560 = s.data.toList
  · have hx1 : (!(mkS (showL 9221120237041090560)).toList == s.toList) = false := by rw [show_test, decide_eq_true hx]; rfl
    rw [if_pos hx]
    clear hx
    go_enter Tryd.func12, Tryd.ntmps12
    go_wp2_with (go_at_call 9; refine (showH.out _ _).mono ?_; rintro e w1 ⟨rfl, hb⟩)
    go_ret2
    exact ⟨rfl, hb⟩
  · have hx1 : (!(mkS (showL 9221120237041090560)).toList == s.toList) = true := by rw [show_test, decide_eq_false hx]; rfl
    rw [if_neg hx]
    clear hx
    go_enter Tryd.func12, Tryd.ntmps12
    go_wp2_with (go_at_call 9; refine (showH.out _ _).mono ?_; rintro e w1 ⟨rfl, hb⟩)
    go_ret2
    exact ⟨rfl, hb⟩

set_option maxRecDepth 1000000 in
set_option maxHeartbeats 8000000 in
theorem specMinus_inf (s T : ByteArray) (w : World) (h4 : ¬ (40 : Int) < s.size) (hz : 0 < s.size) (e1 : (0 : Int) < s.size) (e2 : (((s[0]'hz).toNat : Int) == 45) = true) (hT : s.extract 1 s.size = T) (hTs : T.size ≤ 40) (h1 : (T.toList == [110, 97, 110]) = false) (h2 : (T.toList == [105, 110, 102]) = true) : Calls Tryd.prog 12 #[.string s] w fun e w' => e = .returned (.tuple #[.int .i64 (ansOf (some (signedOf true 9218868437227405312)) s.data.toList).1, .bool (ansOf (some (signedOf true 9218868437227405312)) s.data.toList).2]) ∧ Below w.heap.size w w' := by
  obtain ⟨x, hxe⟩ : ∃ x, signedOf true 9218868437227405312 = x := ⟨_, rfl⟩
  rw [hxe]
  have showH : Hid (∀ w, Calls Tryd.prog 9 #[.int .i64 x] w fun e w' => e = .returned (.string (mkS (showL x))) ∧ Below w.heap.size w w') := fun w => specShow_calls x w
  have sgnH : Hid (∀ w, Calls Tryd.prog 25 #[.bool true, .int .i64 9218868437227405312] w fun e w' => e = .returned (.int .i64 x) ∧ w' = w) := fun w => by rw [← hxe]; exact signed_calls _ _ w
  rw [ans_some]
  clear hxe
  by_cases hx : showL x = s.data.toList
  · have hx1 : (!(mkS (showL x)).toList == s.toList) = false := by rw [show_test, decide_eq_true hx]; rfl
    rw [if_pos hx]
    clear hx
    go_enter Tryd.func12, Tryd.ntmps12
    go_wp2_with (first | (go_at_call 25; refine (sgnH.out _).mono ?_; rintro e w' ⟨rfl, he⟩; subst he) | (go_at_call 9; refine (showH.out _).mono ?_; rintro e w1 ⟨rfl, hb⟩))
    go_ret2
    exact ⟨rfl, hb⟩
  · have hx1 : (!(mkS (showL x)).toList == s.toList) = true := by rw [show_test, decide_eq_false hx]; rfl
    rw [if_neg hx]
    clear hx
    go_enter Tryd.func12, Tryd.ntmps12
    go_wp2_with (first | (go_at_call 25; refine (sgnH.out _).mono ?_; rintro e w' ⟨rfl, he⟩; subst he) | (go_at_call 9; refine (showH.out _).mono ?_; rintro e w1 ⟨rfl, hb⟩))
    go_ret2
    exact ⟨rfl, hb⟩

set_option maxRecDepth 1000000 in
set_option maxHeartbeats 8000000 in
theorem specMinus_num (s T : ByteArray) (w : World) (h4 : ¬ (40 : Int) < s.size) (hz : 0 < s.size) (e1 : (0 : Int) < s.size) (e2 : (((s[0]'hz).toNat : Int) == 45) = true) (hT : s.extract 1 s.size = T) (hTs : T.size ≤ 40) (h1 : (T.toList == [110, 97, 110]) = false) (h2 : (T.toList == [105, 110, 102]) = false) : Calls Tryd.prog 12 #[.string s] w fun e w' => e = .returned (.tuple #[.int .i64 (ansOf (numS true T.data.toList) s.data.toList).1, .bool (ansOf (numS true T.data.toList) s.data.toList).2]) ∧ Below w.heap.size w w' := by
  obtain ⟨A1, hA1⟩ : ∃ a, (ansOf (numS true T.data.toList) s.data.toList).1 = a := ⟨_, rfl⟩
  obtain ⟨A2, hA2⟩ : ∃ a, (ansOf (numS true T.data.toList) s.data.toList).2 = a := ⟨_, rfl⟩
  rw [hA1, hA2]
  have hAH : Hid ((ansOf (numS true T.data.toList) s.data.toList).1 = A1 ∧ (ansOf (numS true T.data.toList) s.data.toList).2 = A2) := ⟨hA1, hA2⟩
  clear hA1 hA2
  go_enter Tryd.func12, Tryd.ntmps12
  go_wp2
  go_loop [7] (fun kv => ∃ k : Nat, kv = .int .i64 k ∧ k ≤ T.size ∧ Hid (∀ j, j < k → T.data.toList[j]? ≠ some 112)) (fun kv => T.size - (intOf kv).toNat)
  case atStart => exact ⟨0, rfl, by omega, fun j hj => by omega⟩
  case round =>
    obtain ⟨k, rfl, hk, hne⟩ := hrel
    have hk40 : k ≤ 40 := by omega
    by_cases hlt : k < T.size
    · have hi0 : (0 : Int) ≤ k := by omega
      have hi1 : (k : Int) < T.size := by omega
      have hget : T.data.toList[k]? = some (T[k]'hlt) := by
        rw [get_toList T k hlt, List.getElem?_eq_getElem]
      by_cases hp : (T[k]'hlt) = 112
      · have e5 : (((T[k]'hlt).toNat : Int) == 112) = true := by rw [hp]; rfl
        have e6 : ((k : Int) == (T.size : Int)) = false := by rw [beq_eq_false_iff_ne]; omega
        have hpos : posP T.data.toList = k := pos_hit _ k hne.out (by rw [hget, hp])
        obtain ⟨M, hM⟩ : ∃ M, readW 20 (T.data.toList.take k) = M := ⟨_, rfl⟩
        obtain ⟨E, hE⟩ : ∃ E, readW 16 (T.data.toList.drop (k + 1)) = E := ⟨_, rfl⟩
        have hMin := readW_in 20 (T.data.toList.take k)
        rw [hM] at hMin
        have hnum : numS true T.data.toList = if M < 0 ∨ E < -2000 ∨ 2000 < E then none else some (signedOf true ((rndOf M.toNat E : Nat) : Int)) := by
          unfold numS
          rw [hpos, hM, hE, if_neg (by rw [toList_size]; omega)]
        have z1 : (T.extract 0 k).size ≤ 40 := by rw [ByteArray.size_extract]; omega
        have z2 : (T.extract (k + 1) T.size).size ≤ 40 := by rw [ByteArray.size_extract]; omega
        have longH : Hid (∀ w, Calls Tryd.prog 26 #[.string (T.extract 0 k)] w fun e w' => (∃ b, e = .returned (.tuple #[.int .i64 M, .bool b])) ∧ Below w.heap.size w w') := fun w => by
          have := readLong_calls (T.extract 0 k) z1 w
          rw [extract_list, Nat.sub_zero, List.drop_zero, hM] at this
          exact this
        have intH : Hid (∀ w, Calls Tryd.prog 27 #[.string (T.extract (k + 1) T.size)] w fun e w' => (∃ b, e = .returned (.tuple #[.int .i64 E, .bool b])) ∧ Below w.heap.size w w') := fun w => by
          have := readInt_calls (T.extract (k + 1) T.size) z2 w
          rw [extract_list, List.take_of_length_le (by rw [List.length_drop, toList_size]; omega), hE] at this
          exact this
        obtain ⟨hA1, hA2⟩ := hAH.out
        rw [hnum] at hA1 hA2
        clear hAH hnum hM hE hpos hget hp hne
        by_cases hbad : M < 0 ∨ E < -2000 ∨ 2000 < E
        · rw [if_pos hbad] at hA1 hA2
          have hans : Hid (0 = A1 ∧ false = A2) := ⟨hA1, hA2⟩
          clear hA1 hA2
          have hcase : M < 0 ∨ (¬ M < 0 ∧ E < -2000) ∨ (¬ M < 0 ∧ ¬ E < -2000 ∧ 2000 < E) := by omega
          clear hbad
          rcases hcase with c1 | ⟨c1, c2⟩ | ⟨c1, c2, c3⟩
          all_goals (
            go_wp2_with (first | (go_at_call 26; refine (longH.out _).mono ?_; rintro e w1 ⟨⟨b1, rfl⟩, hb1⟩) | (go_at_call 27; refine (intH.out _).mono ?_; rintro e w2 ⟨⟨b2, rfl⟩, hb2⟩))
            go_ret2
            obtain ⟨rfl, rfl⟩ := hans.out
            exact ⟨rfl, hb1.trans (hb2.mono hb1.size)⟩)
        · rw [if_neg hbad] at hA1 hA2
          have c1 : ¬ M < 0 := by omega
          have c2 : ¬ E < -2000 := by omega
          have c3 : ¬ 2000 < E := by omega
          obtain ⟨m, rfl⟩ : ∃ m : Nat, M = m := ⟨M.toNat, by omega⟩
          have hm : m < 9223372036854775808 := by omega
          rw [Int.toNat_natCast] at hA1 hA2
          obtain ⟨x, hxe⟩ : ∃ x, signedOf true ((rndOf m E : Nat) : Int) = x := ⟨_, rfl⟩
          rw [hxe, ans_some] at hA1 hA2
          have bitsH : Hid (∀ w, Calls Tryd.prog 29 #[.int .i64 (m : Int)] w fun e w' => ∃ v k, k ≤ 63 ∧ m / 2 ^ k = 0 ∧ e = .returned v ∧ w'.ownsRow w.heap.size 2 1 v k (bitRow m k) ∧ Below w.heap.size w w') := fun w => bits_calls m hm w
          have rndH : Hid (∀ v q B w, q ≤ 63 → m / 2 ^ q = 0 → w.ownsRow B 2 1 v q (bitRow m q) → Calls Tryd.prog 28 #[.bool true, v, .int .i64 E, .bool false] w fun e w' => e = .returned (.int .i64 x) ∧ w' = w) := fun v q B w hq hz h => by
            rw [← hxe]; exact round_own true v q m B E w hq hz (by omega) (by omega) h
          have showH : Hid (∀ w, Calls Tryd.prog 9 #[.int .i64 x] w fun e w' => e = .returned (.string (mkS (showL x))) ∧ Below w.heap.size w w') := fun w => specShow_calls x w
          clear hxe hbad hm hMin
          by_cases hx : showL x = s.data.toList
          · have hx1 : (!(mkS (showL x)).toList == s.toList) = false := by rw [show_test, decide_eq_true hx]; rfl
            rw [if_pos hx] at hA1 hA2
            have hans : Hid (x = A1 ∧ true = A2) := ⟨hA1, hA2⟩
            clear hx hA1 hA2
            go_wp2_with (first | (go_at_call 26; refine (longH.out _).mono ?_; rintro e w1 ⟨⟨b1, rfl⟩, hb1⟩) | (go_at_call 27; refine (intH.out _).mono ?_; rintro e w2 ⟨⟨b2, rfl⟩, hb2⟩) | (go_at_call 29; fail))
            refine (bitsH.out _).mono ?_
            rintro e w3 ⟨v, q, hq, hz3, rfl, ho, hb3⟩
            have rndH2 : Hid (Calls Tryd.prog 28 #[.bool true, v, .int .i64 E, .bool false] w3 fun e w' => e = .returned (.int .i64 x) ∧ w' = w3) := rndH.out v q _ w3 hq hz3 ho
            clear ho hz3 hq rndH
            go_wp2_with (first | (go_at_call 28; refine rndH2.out.mono ?_; rintro e w4 ⟨rfl, he⟩; subst he) | (go_at_call 9; refine (showH.out _).mono ?_; rintro e w5 ⟨rfl, hb5⟩))
            go_ret2
            obtain ⟨rfl, rfl⟩ := hans.out
            exact ⟨rfl, ((hb1.trans (hb2.mono hb1.size)).trans (hb3.mono (hb1.trans (hb2.mono hb1.size)).size)).trans (hb5.mono ((hb1.trans (hb2.mono hb1.size)).trans (hb3.mono (hb1.trans (hb2.mono hb1.size)).size)).size)⟩
          · have hx1 : (!(mkS (showL x)).toList == s.toList) = true := by rw [show_test, decide_eq_false hx]; rfl
            rw [if_neg hx] at hA1 hA2
            have hans : Hid (0 = A1 ∧ false = A2) := ⟨hA1, hA2⟩
            clear hx hA1 hA2
            go_wp2_with (first | (go_at_call 26; refine (longH.out _).mono ?_; rintro e w1 ⟨⟨b1, rfl⟩, hb1⟩) | (go_at_call 27; refine (intH.out _).mono ?_; rintro e w2 ⟨⟨b2, rfl⟩, hb2⟩) | (go_at_call 29; fail))
            refine (bitsH.out _).mono ?_
            rintro e w3 ⟨v, q, hq, hz3, rfl, ho, hb3⟩
            have rndH2 : Hid (Calls Tryd.prog 28 #[.bool true, v, .int .i64 E, .bool false] w3 fun e w' => e = .returned (.int .i64 x) ∧ w' = w3) := rndH.out v q _ w3 hq hz3 ho
            clear ho hz3 hq rndH
            go_wp2_with (first | (go_at_call 28; refine rndH2.out.mono ?_; rintro e w4 ⟨rfl, he⟩; subst he) | (go_at_call 9; refine (showH.out _).mono ?_; rintro e w5 ⟨rfl, hb5⟩))
            go_ret2
            obtain ⟨rfl, rfl⟩ := hans.out
            exact ⟨rfl, ((hb1.trans (hb2.mono hb1.size)).trans (hb3.mono (hb1.trans (hb2.mono hb1.size)).size)).trans (hb5.mono ((hb1.trans (hb2.mono hb1.size)).trans (hb3.mono (hb1.trans (hb2.mono hb1.size)).size)).size)⟩
      · have e5 : (((T[k]'hlt).toNat : Int) == 112) = false := by
          have := byte_is (T[k]'hlt) 112
          rw [decide_eq_false hp] at this
          exact this
        have hne2 : Hid (∀ j, j < k + 1 → T.data.toList[j]? ≠ some 112) := fun j hj => by
          rcases Nat.lt_or_ge j k with h | h
          · exact hne.out j h
          · obtain rfl : j = k := by omega
            rw [hget]; intro h; injection h with h; exact hp h
        clear hp hget hne
        go_wp2
        go_round
        case rel => exact ⟨k + 1, by simp, by omega, hne2⟩
        case measure => first | (simp [intOf]; done) | (simp [intOf]; omega)
    · have hi1 : ¬ (k : Int) < T.size := by omega
      have hke : k = T.size := by omega
      have e6 : ((k : Int) == (T.size : Int)) = true := by rw [hke]; simp
      have hpos : posP T.data.toList = T.data.toList.length := pos_miss _ (fun j hj => hne.out j (by rw [toList_size] at hj; omega))
      have hnum : numS true T.data.toList = none := by unfold numS; rw [if_pos hpos]
      have hans : Hid (0 = A1 ∧ false = A2) := by
        obtain ⟨hA1, hA2⟩ := hAH.out
        rw [hnum] at hA1 hA2
        exact ⟨hA1, hA2⟩
      clear hAH hnum hpos hne hke hlt
      go_wp2
      go_ret2
      obtain ⟨rfl, rfl⟩ := hans.out
      exact ⟨rfl, Below.refl _ _⟩
end Go.Proofs.YtjbknbinaegpkaaDoor
