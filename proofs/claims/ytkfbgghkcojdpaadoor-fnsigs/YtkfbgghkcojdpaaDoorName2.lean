/- impl.NameOk: what it answers at any text, rune by rune. -/
import Derived.Test.YtkfbgghkcojdpaaDoorName
namespace Go.Proofs.YtkfbgghkcojdpaaDoor
open Go.RowKit

theorem partB_high {b : UInt8} (h : 128 ≤ b.toNat) : partB b = false := by
  simp [partB, letterI, innerI]; omega
theorem letterI_high {n : Int} (h : 128 ≤ n) : letterI n = false := by
  simp [letterI]; omega
theorem innerI_high {n : Int} (h : 128 ≤ n) : innerI n = false := by
  simp [innerI]; omega

set_option maxRecDepth 1000000 in
set_option maxHeartbeats 4000000 in
theorem implName_calls (s : ByteArray) (w : World) (hs : s.size ≤ 9223372036854775807) : Calls Tryd.prog 31 #[.string s] w fun e w' => e = .returned (.bool (nameOk s.data.toList)) ∧ (w' = w ∨ ∃ pos, w' = w.iter s pos) := by
  by_cases h0 : (s.size : Int) = 0
  · have hl : s.toList = [] := by rw [ByteArray.toList_eq]; exact List.eq_nil_of_length_eq_zero (by rw [toList_size]; omega)
    go_enter Tryd.func31, Tryd.ntmps31
    go_wp2
    all_goals (go_ret; exact ⟨by rw [nameOk_nil (by rw [toList_size]; omega)]; rfl, .inl rfl⟩)
  have hne : (s.toList == []) = false := by
    rw [ByteArray.toList_eq]
    cases h : s.data.toList with
    | nil => have := toList_size s; rw [h] at this; simp at this; omega
    | cons b t => rfl
  by_cases h40 : 40 < (s.size : Int)
  · go_enter Tryd.func31, Tryd.ntmps31
    go_wp2
    all_goals (go_ret; exact ⟨by rw [nameOk_long (by rw [toList_size]; omega)]; rfl, .inl rfl⟩)
  have hp0 : 0 < s.size := by omega
  go_enter Tryd.func31, Tryd.ntmps31
  go_wp2
  go_loopw [] (fun wr => ∃ pos : Nat, wr = w.iter s pos ∧ pos ≤ s.size ∧ Hid ((s.data.toList.take pos).all partB = true) ∧ Hid (0 < pos → letterI ((s.data.toList[0]'(by rw [toList_size]; exact hp0)).toNat : Int) = true)) (fun wr => s.size - wr.iterPos w.heap.size)
  case atStart => exact ⟨0, rfl, by omega, rfl, fun h => absurd h (by omega)⟩
  case round =>
    obtain ⟨pos, rfl, hpos, hall, hhead⟩ := hrel
    by_cases hp : pos < s.size
    · by_cases ha : (s[pos]'hp).toNat < 128
      · have hnx : ∀ ty, (Instr.next (.pointer (some ⟨w.heap.size, 0, none⟩)) true ty).run Tryd.prog (w.iter s pos) = _ := fun ty => run_next_ascii w s pos ty hp ha
        have hg := get_toList s pos hp
        obtain ⟨b, hb⟩ : ∃ b, b = (s[pos]'hp) := ⟨_, rfl⟩
        rw [← hb] at hnx hg
        have hgH : Hid (b = s.data.toList[pos]'(by rw [toList_size]; exact hp)) := hg
        clear hg hb ha
        by_cases hlet : letterI (b.toNat : Int) = true
        · go_wp2_with (first
            | (go_at_call 45; refine (isLetter_calls _ _).mono ?_; rintro e w' ⟨rfl, he⟩; subst he)
            | (go_at_call 46; refine (isInner_calls _ _).mono ?_; rintro e w' ⟨rfl, he⟩; subst he))
          go_roundw
          case rel =>
            refine ⟨pos + 1, rfl, by omega, all_take_succ (by rw [toList_size]; exact hp) hall.out ?_, ?_⟩
            · rw [← hgH.out]; simp [partB, hlet]
            · intro _
              cases pos with
              | zero => rw [← hgH.out]; exact hlet
              | succ k => exact hhead.out (by omega)
          case measure => rw [World.iterPos_iter, World.iterPos_iter]; omega
        have hlet' : letterI (b.toNat : Int) = false := by simpa using hlet
        clear hlet
        by_cases hz : (pos : Int) = 0
        · obtain rfl : pos = 0 := by omega
          have hh : nameOk s.data.toList = false := nameOk_head (by rw [toList_size]; omega) (by rw [← hgH.out]; exact hlet')
          go_wp2_with (first
            | (go_at_call 45; refine (isLetter_calls _ _).mono ?_; rintro e w' ⟨rfl, he⟩; subst he)
            | (go_at_call 46; refine (isInner_calls _ _).mono ?_; rintro e w' ⟨rfl, he⟩; subst he))
          go_ret
          exact ⟨by rw [hh]; rfl, .inr ⟨_, rfl⟩⟩
        have hz' : ((pos : Int) == 0) = false := by simpa using hz
        by_cases hin : innerI (b.toNat : Int) = true
        · go_wp2_with (first
            | (go_at_call 45; refine (isLetter_calls _ _).mono ?_; rintro e w' ⟨rfl, he⟩; subst he)
            | (go_at_call 46; refine (isInner_calls _ _).mono ?_; rintro e w' ⟨rfl, he⟩; subst he))
          go_roundw
          case rel =>
            refine ⟨pos + 1, rfl, by omega, all_take_succ (by rw [toList_size]; exact hp) hall.out ?_, ?_⟩
            · rw [← hgH.out]; simp [partB, hin]
            · intro _; exact hhead.out (by omega)
          case measure => rw [World.iterPos_iter, World.iterPos_iter]; omega
        have hin' : innerI (b.toNat : Int) = false := by simpa using hin
        clear hin
        have hh : nameOk s.data.toList = false := nameOk_part (i := pos) (by rw [toList_size]; exact hp) (by rw [← hgH.out]; simp [partB, hlet', hin'])
        go_wp2_with (first
          | (go_at_call 45; refine (isLetter_calls _ _).mono ?_; rintro e w' ⟨rfl, he⟩; subst he)
          | (go_at_call 46; refine (isInner_calls _ _).mono ?_; rintro e w' ⟨rfl, he⟩; subst he))
        go_ret
        exact ⟨by rw [hh]; rfl, .inr ⟨_, rfl⟩⟩
      · have hh : nameOk s.data.toList = false := nameOk_part (i := pos) (by rw [toList_size]; exact hp) (by rw [← get_toList s pos hp]; exact partB_high (by omega))
        have hnx : ∀ ty, (Instr.next (.pointer (some ⟨w.heap.size, 0, none⟩)) true ty).run Tryd.prog (w.iter s pos) = _ := fun ty => run_next_any w s pos ty hp
        have hr := (decode_high s pos hp (by omega)).1
        generalize (Utf8.decode s pos).1 = r at *
        generalize pos + (Utf8.decode s pos).2 = q at *
        have hl : letterI (r : Int) = false := letterI_high (by omega)
        have hi : innerI (r : Int) = false := innerI_high (by omega)
        go_wp2_with (first
          | (go_at_call 45; refine (isLetter_calls _ _).mono ?_; rintro e w' ⟨rfl, he⟩; subst he)
          | (go_at_call 46; refine (isInner_calls _ _).mono ?_; rintro e w' ⟨rfl, he⟩; subst he))
        all_goals (
          go_ret
          exact ⟨by rw [hh]; rfl, .inr ⟨_, rfl⟩⟩)
    · have hnx : ∀ ty, (Instr.next (.pointer (some ⟨w.heap.size, 0, none⟩)) true ty).run Tryd.prog (w.iter s pos) = _ := fun ty => run_next_end w s pos ty hp
      have e : pos = s.data.toList.length := by rw [toList_size]; omega
      have hh : nameOk s.data.toList = true := by
        have h1 := hall.out
        rw [e, List.take_length] at h1
        exact nameOk_whole (by rw [toList_size]; omega) (by rw [toList_size]; omega) (hhead.out (by omega)) h1
      clear e
      go_wp2
      go_ret
      exact ⟨by rw [hh]; rfl, .inr ⟨_, rfl⟩⟩
end Go.Proofs.YtkfbgghkcojdpaaDoor
