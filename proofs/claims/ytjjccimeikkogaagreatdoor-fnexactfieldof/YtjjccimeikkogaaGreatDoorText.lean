import Derived.Test.YtjjccimeikkogaaGreatDoorRows
import Derived.WalkKit
import Derived.ProofKit
import Derived.OpenShut
import Derived.ShutString
import Derived.Laws.RangeAny
import Derived.Deep.Light
set_option maxRecDepth 1000000
set_option maxHeartbeats 4000000
namespace Go.Proofs.YtjjccimeikkogaaGreatDoor
set_option linter.unusedVariables false
open Go.RowKit
def letterI (n : Int) : Bool := decide (97 ≤ n) && decide (n ≤ 122) || decide (65 ≤ n) && decide (n ≤ 90)
def innerI (n : Int) : Bool := decide (48 ≤ n) && decide (n ≤ 57) || n == 95 || n == 46 || n == 36
def partB (b : UInt8) : Bool := letterI (b.toNat : Int) || innerI (b.toNat : Int)
def nameOk (l : List UInt8) : Bool := match l with
 | [] => false
 | b :: t => decide (t.length < 40) && letterI (b.toNat : Int) && t.all partB
theorem all_take_succ {p : UInt8 → Bool} {l : List UInt8} {i : Nat} (h : i < l.length) (h1 : (l.take i).all p = true) (h2 : p l[i] = true) : (l.take (i + 1)).all p = true := by
 rw [List.take_succ_eq_append_getElem h, List.all_append, h1]; simp [h2]
theorem all_false_at {p : UInt8 → Bool} {l : List UInt8} {i : Nat} (h : i < l.length) (h2 : p l[i] = false) : l.all p = false := by
 rw [List.all_eq_false]; exact ⟨l[i], List.getElem_mem h, by simp [h2]⟩
theorem nameOk_nil {l : List UInt8} (h : l.length = 0) : nameOk l = false := by cases l <;> simp_all [nameOk]
theorem nameOk_long {l : List UInt8} (h : 40 < l.length) : nameOk l = false := by cases l <;> simp_all [nameOk]; omega
theorem nameOk_head {l : List UInt8} (h : 0 < l.length) (h2 : letterI (l[0].toNat : Int) = false) : nameOk l = false := by cases l <;> simp_all [nameOk]
theorem nameOk_part {l : List UInt8} {i : Nat} (h : i < l.length) (h2 : partB l[i] = false) : nameOk l = false := by
 cases l with
 | nil => rfl
 | cons b t =>
  cases i with
  | zero => simp [partB] at h2; simp [nameOk, h2.1]
  | succ k =>
   simp at h h2
   have := all_false_at (p := partB) h h2
   simp [nameOk, this]
theorem nameOk_whole {l : List UInt8} (h : 0 < l.length) (h4 : l.length ≤ 40) (h2 : letterI (l[0].toNat : Int) = true) (h3 : l.all partB = true) : nameOk l = true := by
 cases l with
 | nil => simp at h
 | cons b t => simp_all [nameOk]; omega
theorem specLetter_calls (n : Int) (w : World) : Calls Tryz.prog 129 #[.int .u8 n] w fun e w' => e = .returned (.bool (letterI n)) ∧ w' = w := by
 go_enter Tryz.func129, Tryz.ntmps129
 go_wp2
 all_goals (go_ret; refine ⟨?_, rfl⟩; simp_all [letterI])
 all_goals omega
theorem isLetter_calls (n : Int) (w : World) : Calls Tryz.prog 142 #[.int .i32 n] w fun e w' => e = .returned (.bool (letterI n)) ∧ w' = w := by
 go_enter Tryz.func142, Tryz.ntmps142
 go_wp2
 all_goals (go_ret; refine ⟨?_, rfl⟩; simp_all [letterI])
 all_goals omega
theorem isInner_calls (n : Int) (w : World) : Calls Tryz.prog 143 #[.int .i32 n] w fun e w' => e = .returned (.bool (innerI n)) ∧ w' = w := by
 go_enter Tryz.func143, Tryz.ntmps143
 go_wp2
 all_goals (go_ret; refine ⟨?_, rfl⟩; simp_all [innerI])
 all_goals (have h48 : ¬ 48 ≤ n := by omega)
 all_goals simp [h48]
theorem toList_size (s : ByteArray) : s.data.toList.length = s.size := Array.length_toList
theorem get_toList (s : ByteArray) (i : Nat) (h : i < s.size) : s[i]'h = s.data.toList[i]'(by rw [toList_size]; exact h) := by
 cases s; rfl
theorem head_of (s : ByteArray) (h : 0 < s.size) {x : Bool} (hx : letterI ((s[0]'h).toNat : Int) = x) : letterI ((s.data.toList[0]'(by rw [toList_size]; exact h)).toNat : Int) = x := by
 rw [← get_toList s 0 h]; exact hx
theorem specName_calls (s : ByteArray) (w : World) (hs : s.size ≤ 9223372036854775807) : Calls Tryz.prog 90 #[.string s] w fun e w' => e = .returned (.bool (nameOk s.data.toList)) ∧ w' = w := by
 by_cases h0 : (s.size : Int) = 0
 ·go_enter Tryz.func90, Tryz.ntmps90
  go_wp2_with (first
   | (go_at_call 129; refine (specLetter_calls _ _).mono ?_; rintro e w' ⟨rfl, he⟩; subst he))
  all_goals (go_ret; exact ⟨by rw [nameOk_nil (by rw [toList_size]; omega)]; rfl, rfl⟩)
 have hne : ((s.size : Int) == 0) = false := by simpa using h0
 by_cases h40 : 40 < (s.size : Int)
 ·go_enter Tryz.func90, Tryz.ntmps90
  go_wp2_with (first
   | (go_at_call 129; refine (specLetter_calls _ _).mono ?_; rintro e w' ⟨rfl, he⟩; subst he))
  all_goals (go_ret; exact ⟨by rw [nameOk_long (by rw [toList_size]; omega)]; rfl, rfl⟩)
 have hp : 0 < s.size := by omega
 by_cases hl : letterI ((s[0]'hp).toNat : Int) = false
 ·go_enter Tryz.func90, Tryz.ntmps90
  go_wp2_with (first
   | (go_at_call 129; refine (specLetter_calls _ _).mono ?_; rintro e w' ⟨rfl, he⟩; subst he))
  all_goals (go_ret; exact ⟨by rw [nameOk_head (by rw [toList_size]; omega) (head_of s hp hl)]; rfl, rfl⟩)
 have hl1 : letterI ((s[0]'hp).toNat : Int) = true := by simpa using hl
 clear hl
 go_enter Tryz.func90, Tryz.ntmps90
 go_wp2_with (first
  | (go_at_call 129; refine (specLetter_calls _ _).mono ?_; rintro e w' ⟨rfl, he⟩; subst he))
 have hl2 : Hid (letterI ((s.data.toList[0]'(by rw [toList_size]; exact hp)).toNat : Int) = true) := head_of s hp hl1
 clear hl1
 rename_i w'
 go_loop [3] (fun v => ∃ i : Nat, v = .int .i64 i ∧ i ≤ s.size ∧ Hid ((s.data.toList.take i).all partB = true)) (fun v => s.size - (intOf v).toNat)
 case atStart => exact ⟨0, rfl, by omega, rfl⟩
 case round =>
  obtain ⟨i, rfl, hi, hall⟩ := hrel
  by_cases hlt : i < s.size
  ·have hi0 : (0 : Int) ≤ i := by omega
   have hi1 : (i : Int) < s.size := by omega
   go_wp2_with (first
    | (go_at_call 129; refine (specLetter_calls _ _).mono ?_; rintro e w' ⟨rfl, he⟩; subst he))
   all_goals try (
    go_round
    case rel =>
     go_light
     refine ⟨i + 1, by simp, by omega, all_take_succ (by rw [toList_size]; exact hlt) hall.out ?_⟩
     rw [← get_toList s i hlt]
     generalize (s[i]'hlt) = b at *
     simp only [partB, innerI]
     generalize (b.toNat : Int) = n at *
     simp_all
     try omega
    case measure => simp [intOf]; omega)
   all_goals (
    have hb : partB (s.data.toList[i]'(by rw [toList_size]; exact hlt)) = false := by
     go_light
     rw [← get_toList s i hlt]
     generalize (s[i]'hlt) = b at *
     simp only [partB, innerI]
     generalize (b.toNat : Int) = n at *
     simp_all
     try omega
    go_ret
    refine ⟨?_, rfl⟩
    rw [nameOk_part (by rw [toList_size]; exact hlt) hb]; rfl)
  ·have hi1 : ¬ (i : Int) < s.size := by omega
   go_wp2
   go_ret
   refine ⟨?_, rfl⟩
   have e : i = s.data.toList.length := by rw [toList_size]; omega
   have ha := hall.out
   rw [e, List.take_length] at ha
   rw [nameOk_whole (by rw [toList_size]; omega) (by rw [toList_size]; omega) hl2.out ha]; rfl
theorem partB_high {b : UInt8} (h : 128 ≤ b.toNat) : partB b = false := by
 simp [partB, letterI, innerI]; omega
theorem letterI_high {n : Int} (h : 128 ≤ n) : letterI n = false := by
 simp [letterI]; omega
theorem innerI_high {n : Int} (h : 128 ≤ n) : innerI n = false := by
 simp [innerI]; omega
theorem implName_calls (s : ByteArray) (w : World) (hs : s.size ≤ 9223372036854775807) : Calls Tryz.prog 111 #[.string s] w fun e w' => e = .returned (.bool (nameOk s.data.toList)) ∧ (w' = w ∨ ∃ pos, w' = w.iter s pos) := by
 by_cases h0 : (s.size : Int) = 0
 ·have hl : s.toList = [] := by rw [ByteArray.toList_eq]; exact List.eq_nil_of_length_eq_zero (by rw [toList_size]; omega)
  go_enter Tryz.func111, Tryz.ntmps111
  go_wp2
  all_goals (go_ret; exact ⟨by rw [nameOk_nil (by rw [toList_size]; omega)]; rfl, .inl rfl⟩)
 have hne : (s.toList == []) = false := by
  rw [ByteArray.toList_eq]
  cases h : s.data.toList with
  | nil => have := toList_size s; rw [h] at this; simp at this; omega
  | cons b t => rfl
 by_cases h40 : 40 < (s.size : Int)
 ·go_enter Tryz.func111, Tryz.ntmps111
  go_wp2
  all_goals (go_ret; exact ⟨by rw [nameOk_long (by rw [toList_size]; omega)]; rfl, .inl rfl⟩)
 have hp0 : 0 < s.size := by omega
 go_enter Tryz.func111, Tryz.ntmps111
 go_wp2
 go_loopw [] (fun wr => ∃ pos : Nat, wr = w.iter s pos ∧ pos ≤ s.size ∧ Hid ((s.data.toList.take pos).all partB = true) ∧ Hid (0 < pos → letterI ((s.data.toList[0]'(by rw [toList_size]; exact hp0)).toNat : Int) = true)) (fun wr => s.size - wr.iterPos w.heap.size)
 case atStart => exact ⟨0, rfl, by omega, rfl, fun h => absurd h (by omega)⟩
 case round =>
  obtain ⟨pos, rfl, hpos, hall, hhead⟩ := hrel
  by_cases hp : pos < s.size
  ·by_cases ha : (s[pos]'hp).toNat < 128
   ·have hnx : ∀ ty, (Instr.next (.pointer (some ⟨w.heap.size, 0, none⟩)) true ty).run Tryz.prog (w.iter s pos) = _ := fun ty => run_next_ascii w s pos ty hp ha
    have hg := get_toList s pos hp
    obtain ⟨b, hb⟩ : ∃ b, b = (s[pos]'hp) := ⟨_, rfl⟩
    rw [← hb] at hnx hg
    have hgH : Hid (b = s.data.toList[pos]'(by rw [toList_size]; exact hp)) := hg
    clear hg hb ha
    by_cases hlet : letterI (b.toNat : Int) = true
    ·go_wp2_with (first
      | (go_at_call 142; refine (isLetter_calls _ _).mono ?_; rintro e w' ⟨rfl, he⟩; subst he)
      | (go_at_call 143; refine (isInner_calls _ _).mono ?_; rintro e w' ⟨rfl, he⟩; subst he))
     go_roundw
     case rel =>
      refine ⟨pos + 1, rfl, by omega, all_take_succ (by rw [toList_size]; exact hp) hall.out ?_, ?_⟩
      ·rw [← hgH.out]; simp [partB, hlet]
      ·intro _
       cases pos with
       | zero => rw [← hgH.out]; exact hlet
       | succ k => exact hhead.out (by omega)
     case measure => rw [World.iterPos_iter, World.iterPos_iter]; omega
    have hlet' : letterI (b.toNat : Int) = false := by simpa using hlet
    clear hlet
    by_cases hz : (pos : Int) = 0
    ·obtain rfl : pos = 0 := by omega
     have hh : nameOk s.data.toList = false := nameOk_head (by rw [toList_size]; omega) (by rw [← hgH.out]; exact hlet')
     go_wp2_with (first
      | (go_at_call 142; refine (isLetter_calls _ _).mono ?_; rintro e w' ⟨rfl, he⟩; subst he)
      | (go_at_call 143; refine (isInner_calls _ _).mono ?_; rintro e w' ⟨rfl, he⟩; subst he))
     go_ret
     exact ⟨by rw [hh]; rfl, .inr ⟨_, rfl⟩⟩
    have hz' : ((pos : Int) == 0) = false := by simpa using hz
    by_cases hin : innerI (b.toNat : Int) = true
    ·go_wp2_with (first
      | (go_at_call 142; refine (isLetter_calls _ _).mono ?_; rintro e w' ⟨rfl, he⟩; subst he)
      | (go_at_call 143; refine (isInner_calls _ _).mono ?_; rintro e w' ⟨rfl, he⟩; subst he))
     go_roundw
     case rel =>
      refine ⟨pos + 1, rfl, by omega, all_take_succ (by rw [toList_size]; exact hp) hall.out ?_, ?_⟩
      ·rw [← hgH.out]; simp [partB, hin]
      ·intro _; exact hhead.out (by omega)
     case measure => rw [World.iterPos_iter, World.iterPos_iter]; omega
    have hin' : innerI (b.toNat : Int) = false := by simpa using hin
    clear hin
    have hh : nameOk s.data.toList = false := nameOk_part (i := pos) (by rw [toList_size]; exact hp) (by rw [← hgH.out]; simp [partB, hlet', hin'])
    go_wp2_with (first
     | (go_at_call 142; refine (isLetter_calls _ _).mono ?_; rintro e w' ⟨rfl, he⟩; subst he)
     | (go_at_call 143; refine (isInner_calls _ _).mono ?_; rintro e w' ⟨rfl, he⟩; subst he))
    go_ret
    exact ⟨by rw [hh]; rfl, .inr ⟨_, rfl⟩⟩
   ·have hh : nameOk s.data.toList = false := nameOk_part (i := pos) (by rw [toList_size]; exact hp) (by rw [← get_toList s pos hp]; exact partB_high (by omega))
    have hnx : ∀ ty, (Instr.next (.pointer (some ⟨w.heap.size, 0, none⟩)) true ty).run Tryz.prog (w.iter s pos) = _ := fun ty => run_next_any w s pos ty hp
    have hr := (decode_high s pos hp (by omega)).1
    generalize (Utf8.decode s pos).1 = r at *
    generalize pos + (Utf8.decode s pos).2 = q at *
    have hl : letterI (r : Int) = false := letterI_high (by omega)
    have hi : innerI (r : Int) = false := innerI_high (by omega)
    go_wp2_with (first
     | (go_at_call 142; refine (isLetter_calls _ _).mono ?_; rintro e w' ⟨rfl, he⟩; subst he)
     | (go_at_call 143; refine (isInner_calls _ _).mono ?_; rintro e w' ⟨rfl, he⟩; subst he))
    all_goals (
     go_ret
     exact ⟨by rw [hh]; rfl, .inr ⟨_, rfl⟩⟩)
  ·have hnx : ∀ ty, (Instr.next (.pointer (some ⟨w.heap.size, 0, none⟩)) true ty).run Tryz.prog (w.iter s pos) = _ := fun ty => run_next_end w s pos ty hp
   have e : pos = s.data.toList.length := by rw [toList_size]; omega
   have hh : nameOk s.data.toList = true := by
    have h1 := hall.out
    rw [e, List.take_length] at h1
    exact nameOk_whole (by rw [toList_size]; omega) (by rw [toList_size]; omega) (hhead.out (by omega)) h1
   clear e
   go_wp2
   go_ret
   exact ⟨by rw [hh]; rfl, .inr ⟨_, rfl⟩⟩
end Go.Proofs.YtjjccimeikkogaaGreatDoor
