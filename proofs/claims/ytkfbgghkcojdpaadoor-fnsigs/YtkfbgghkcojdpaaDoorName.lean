/- NameOk on both sides: what each answers at any text. -/
import Derived.Test.YtkfbgghkcojdpaaDoorText
import Derived.Deep.Light
namespace Go.Proofs.YtkfbgghkcojdpaaDoor
open Go.RowKit

theorem toList_size (s : ByteArray) : s.data.toList.length = s.size := Array.length_toList
theorem get_toList (s : ByteArray) (i : Nat) (h : i < s.size) : s[i]'h = s.data.toList[i]'(by rw [toList_size]; exact h) := by
  cases s; rfl
theorem head_of (s : ByteArray) (h : 0 < s.size) {x : Bool} (hx : letterI ((s[0]'h).toNat : Int) = x) : letterI ((s.data.toList[0]'(by rw [toList_size]; exact h)).toNat : Int) = x := by
  rw [← get_toList s 0 h]; exact hx

set_option maxRecDepth 1000000 in
set_option maxHeartbeats 4000000 in
theorem specName_calls (s : ByteArray) (w : World) (hs : s.size ≤ 9223372036854775807) : Calls Tryd.prog 41 #[.string s] w fun e w' => e = .returned (.bool (nameOk s.data.toList)) ∧ w' = w := by
  by_cases h0 : (s.size : Int) = 0
  · go_enter Tryd.func41, Tryd.ntmps41
    go_wp2_with (first
      | (go_at_call 50; refine (specLetter_calls _ _).mono ?_; rintro e w' ⟨rfl, he⟩; subst he))
    all_goals (go_ret; exact ⟨by rw [nameOk_nil (by rw [toList_size]; omega)]; rfl, rfl⟩)
  have hne : ((s.size : Int) == 0) = false := by simpa using h0
  by_cases h40 : 40 < (s.size : Int)
  · go_enter Tryd.func41, Tryd.ntmps41
    go_wp2_with (first
      | (go_at_call 50; refine (specLetter_calls _ _).mono ?_; rintro e w' ⟨rfl, he⟩; subst he))
    all_goals (go_ret; exact ⟨by rw [nameOk_long (by rw [toList_size]; omega)]; rfl, rfl⟩)
  have hp : 0 < s.size := by omega
  by_cases hl : letterI ((s[0]'hp).toNat : Int) = false
  · go_enter Tryd.func41, Tryd.ntmps41
    go_wp2_with (first
      | (go_at_call 50; refine (specLetter_calls _ _).mono ?_; rintro e w' ⟨rfl, he⟩; subst he))
    all_goals (go_ret; exact ⟨by rw [nameOk_head (by rw [toList_size]; omega) (head_of s hp hl)]; rfl, rfl⟩)
  have hl1 : letterI ((s[0]'hp).toNat : Int) = true := by simpa using hl
  clear hl
  go_enter Tryd.func41, Tryd.ntmps41
  go_wp2_with (first
    | (go_at_call 50; refine (specLetter_calls _ _).mono ?_; rintro e w' ⟨rfl, he⟩; subst he))
  have hl2 : Hid (letterI ((s.data.toList[0]'(by rw [toList_size]; exact hp)).toNat : Int) = true) := head_of s hp hl1
  clear hl1
  rename_i w'
  go_loop [3] (fun v => ∃ i : Nat, v = .int .i64 i ∧ i ≤ s.size ∧ Hid ((s.data.toList.take i).all partB = true)) (fun v => s.size - (intOf v).toNat)
  case atStart => exact ⟨0, rfl, by omega, rfl⟩
  case round =>
    obtain ⟨i, rfl, hi, hall⟩ := hrel
    by_cases hlt : i < s.size
    · have hi0 : (0 : Int) ≤ i := by omega
      have hi1 : (i : Int) < s.size := by omega
      go_wp2_with (first
        | (go_at_call 50; refine (specLetter_calls _ _).mono ?_; rintro e w' ⟨rfl, he⟩; subst he))
      all_goals try (
        go_round
        case rel =>
          go_light
          refine ⟨i + 1, by simp, by omega, all_take_succ (by rw [toList_size]; exact hlt) hall.out ?_⟩
          rw [← get_toList s i hlt]
          generalize (s[i]'hlt) = b at *
          simp only [partB, innerI]
          generalize (b.toNat : Int) = n at *
          simp_all
          try omega
        case measure => simp [intOf]; omega)
      all_goals (
        have hb : partB (s.data.toList[i]'(by rw [toList_size]; exact hlt)) = false := by
          go_light
          rw [← get_toList s i hlt]
          generalize (s[i]'hlt) = b at *
          simp only [partB, innerI]
          generalize (b.toNat : Int) = n at *
          simp_all
          try omega
        go_ret
        refine ⟨?_, rfl⟩
        rw [nameOk_part (by rw [toList_size]; exact hlt) hb]; rfl)
    · have hi1 : ¬ (i : Int) < s.size := by omega
      go_wp2
      go_ret
      refine ⟨?_, rfl⟩
      have e : i = s.data.toList.length := by rw [toList_size]; omega
      have ha := hall.out
      rw [e, List.take_length] at ha
      rw [nameOk_whole (by rw [toList_size]; omega) (by rw [toList_size]; omega) hl2.out ha]; rfl
end Go.Proofs.YtkfbgghkcojdpaaDoor
