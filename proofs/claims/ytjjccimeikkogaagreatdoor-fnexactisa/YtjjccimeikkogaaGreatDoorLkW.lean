import Derived.Test.YtjjccimeikkogaaGreatDoorLkV
import Derived.Test.YtjjccimeikkogaaGreatDoorLkD
namespace Go.Proofs.YtjjccimeikkogaaGreatDoor
set_option linter.unusedVariables false
open Go.Maps Go.WideMaps
open Go.ChangeShapes Go.WideShapes Go.ChangeAt Go.RowKit Go.Shelf
theorem isa6_calls (a : Option Addr) (n c : Nat) (all : List ClassL) (hn : n ≤ 1000) (hN : Named all) (hif : ∀ x ∈ all, x.ifs.length ≤ 1048576) : ∀ (m : Nat) (t u : ByteArray) (w : World) (B : Nat), t.size ≤ m → B ≤ w.heap.size → AllAt B w (.slice a n c) all → t.size ≤ 1048576 → u.size ≤ 1048576 →
  Calls Tryz.prog 34 #[.slice a n c, .string t, .string u] w fun e w' => e = .returned (.bool (isaS (abvB all) t.data.toList u.data.toList)) ∧ Below w.heap.size w w'
 | 0, t, u, w, B, hm, hB, ht, hts, hus => isa6_step a n c t u all w B hB ht hn hN hif hts hus fun t' u' W h0 => absurd h0 (by omega)
 | m + 1, t, u, w, B, hm, hB, ht, hts, hus => isa6_step a n c t u all w B hB ht hn hN hif hts hus fun t' u' W h0 e1 e2 hW => by
  have l1 := toList_size t'
  have l2 := toList_size u'
  rw [e1, List.length_tail] at l1
  rw [e2, List.length_tail] at l2
  have l3 := toList_size t
  have l4 := toList_size u
  exact isa6_calls a n c all hn hN hif m t' u' W B (by omega) (Nat.le_trans hB hW.size) (ht.below' hB hW) (by omega) (by omega)
def wholeL (l : List UInt8) : Bool := decide (l = [48]) || refL l
theorem isofI_one (ab : List UInt8 → List UInt8 → Bool) (takes : List UInt8 → Bool) (t u : List UInt8) : isofI ab takes t u =
  if kindL u = 0 then false else if t = u then true else if kindL u ≠ 4 ∨ (!wholeL t) then false else if t = [48] then true else if atR u && takes u.tail then true
  else if atR t then atR u && ab t.tail u.tail else !atR u && isofI ab takes t.tail u.tail := by
 cases t with
 | nil =>
  unfold isofI
  by_cases hk : kindL u = 0
  ·rw [if_pos hk, if_pos hk]
  ·rw [if_neg hk, if_neg hk]
   by_cases e : [] = u
   ·rw [if_pos e, decide_eq_true e]
   ·rw [if_neg e, decide_eq_false e, if_pos (.inr (by decide))]
 | cons b r => rw [isofI]; rfl
def cutS (s : ByteArray) : ByteArray := ⟨(Lib.trimPrefix s.data.toList [64]).toArray⟩
theorem cutS_tail {s : ByteArray} (h : atR s.data.toList = true) : (cutS s).data.toList = s.data.toList.tail := by
 unfold cutS
 cases e : s.data.toList with
 | nil => rw [e] at h; simp [atR] at h
 | cons b r =>
  rw [e] at h
  have hb : b = 64 := by simpa [atR] using h
  subst hb
  simp only [List.tail_cons]
  rw [Lib.trimPrefix, hasPrefix_at]
  rfl
theorem cutS_size {s : ByteArray} (h : s.size ≤ 1048576) : (cutS s).size ≤ 1048576 := by
 have e : (cutS s).size = (Lib.trimPrefix s.data.toList [64]).length := by
  rw [← toList_size (cutS s)]
  unfold cutS
  simp
 rw [e]
 have := toList_size s
 unfold Lib.trimPrefix
 split
 ·simp; omega
 ·omega
theorem cut_calls (s : ByteArray) (w : World) : Calls Tryz.prog 94 #[.string s, .string ⟨#[64]⟩] w fun e w' => e = .returned (.tuple #[.string (cutS s), .bool (atR s.data.toList)]) ∧ w' = w := by
 refine (Tryz.strings_CutPrefix s ⟨#[64]⟩ w).mono ?_
 rintro e w' ⟨rfl, rfl⟩
 refine ⟨?_, rfl⟩
 have : Lib.hasPrefix s.data.toList [64] = atR s.data.toList := by
  cases e : s.data.toList with
  | nil => rfl
  | cons b r =>
   by_cases hb : b = 64
   ·subst hb; rw [hasPrefix_at]; rfl
   ·rw [hasPrefix_other (fun r' q => hb (by injection q))]
    simp [atR, hb]
 rw [← this]
 rfl
theorem whole_calls (s : ByteArray) (w : World) (hs : s.size ≤ 1048576) : Calls Tryz.prog 93 #[.string s] w fun e w' => e = .returned (.bool (wholeL s.data.toList)) ∧ Below w.heap.size w w' := by
 have hk := implKind_calls s w (by omega)
 unfold wholeL refL
 by_cases e : s.data.toList = [48]
 ·have e1 : (s.toList == [48]) = true := by rw [ByteArray.toList_eq, e]; rfl
  rw [decide_eq_true e]
  clear e hk
  go_enter Tryz.func93, Tryz.ntmps93
  go_wp2
  go_ret
  exact ⟨rfl, Below.refl _ _⟩
 ·have e1 : (s.toList == [48]) = false := by rw [ByteArray.toList_eq, beq_eq_false_iff_ne]; exact e
  rw [decide_eq_false e, Bool.false_or]
  have hkH : Hid (Calls Tryz.prog 92 #[.string s] w fun e w' => e = .returned (.int .i64 (kindL s.data.toList)) ∧ Below w.heap.size w w') := hk
  generalize kindL s.data.toList = k at *
  clear e hk
  by_cases h4 : k = 4
  ·subst h4
   go_enter Tryz.func93, Tryz.ntmps93
   go_wp2_with (refine hkH.out.mono ?_; rintro e w' ⟨rfl, hb⟩)
   go_ret
   exact ⟨rfl, hb⟩
  ·rw [decide_eq_false h4]
   have hb4 : (k == 4) = false := by simpa using h4
   go_enter Tryz.func93, Tryz.ntmps93
   go_wp2_with (refine hkH.out.mono ?_; rintro e w' ⟨rfl, hb⟩)
   go_ret
   exact ⟨rfl, hb⟩
theorem isA1_calls (s : ByteArray) (w : World) : Calls Tryz.prog 65 #[.string s] w fun e w' => e = .returned (.bool (decide (s.data.toList = objN))) ∧ w' = w := by
 by_cases e : s.data.toList = objN
 ·have e1 : (s.toList == [79, 98, 106, 101, 99, 116]) = true := by rw [ByteArray.toList_eq, e]; rfl
  rw [decide_eq_true e]
  clear e
  go_enter Tryz.func65, Tryz.ntmps65
  go_wp2
  go_ret
  exact ⟨rfl, rfl⟩
 ·have e1 : (s.toList == [79, 98, 106, 101, 99, 116]) = false := by rw [ByteArray.toList_eq, beq_eq_false_iff_ne]; exact e
  rw [decide_eq_false e]
  clear e
  go_enter Tryz.func65, Tryz.ntmps65
  go_wp2
  go_ret
  exact ⟨rfl, rfl⟩
end Go.Proofs.YtjjccimeikkogaaGreatDoor
