/- An instruction held against what its op names of it. -/
import Derived.Test.YtcencddbdidjjaaGreatDoorSpA
import Derived.Test.YtcencddbdidjjaaGreatDoorInsG
import Derived.Test.YtcencddbdidjjaaGreatDoorInsE
import Derived.Laws.OwnMore
import Derived.Laws.AppendOwnNone
import Derived.LoopN
namespace Go.Proofs.YtcencddbdidjjaaGreatDoor
set_option linter.unusedVariables false
open Go.ChangeShapes Go.WideShapes Go.ChangeAt Go.RowKit

def keptB (o k a b : Int) (T C N Y : ByteArray) (zs : List Int) : Bool :=
  if o = 1 ∨ o = 24 ∨ o = 4 ∨ o = 5 then sameB o k a b o k a 0 T C N Y ⟨#[]⟩ ⟨#[]⟩ ⟨#[]⟩ ⟨#[]⟩ zs []
  else if o = 2 then sameB o k a b o 0 0 0 T C N Y T ⟨#[]⟩ ⟨#[]⟩ ⟨#[]⟩ zs []
  else if o = 6 ∨ (26 ≤ o ∧ o ≤ 29) then sameB o k a b o 0 a b T C N Y ⟨#[]⟩ ⟨#[]⟩ ⟨#[]⟩ ⟨#[]⟩ zs []
  else if o = 25 then sameB o k a b o 0 a 0 T C N Y ⟨#[]⟩ ⟨#[]⟩ ⟨#[]⟩ ⟨#[]⟩ zs []
  else if o = 23 ∧ k = 3 then sameB o k a b o k 0 b T C N Y ⟨#[]⟩ ⟨#[]⟩ ⟨#[]⟩ ⟨#[]⟩ zs []
  else if o = 23 then sameB o k a b o k 0 0 T C N Y ⟨#[]⟩ ⟨#[]⟩ ⟨#[]⟩ ⟨#[]⟩ zs []
  else if o = 30 then sameB o k a b o 0 a b T C N Y ⟨#[]⟩ ⟨#[]⟩ ⟨#[]⟩ ⟨#[]⟩ zs zs
  else if 31 ≤ o ∧ o ≤ 33 then sameB o k a b o 0 0 b T C N Y ⟨#[]⟩ C N Y zs []
  else if o = 34 then sameB o k a b o 0 0 0 T C N Y ⟨#[]⟩ C ⟨#[]⟩ ⟨#[]⟩ zs []
  else if o = 35 ∨ o = 39 ∨ o = 40 then sameB o k a b o 0 0 0 T C N Y ⟨#[]⟩ ⟨#[]⟩ ⟨#[]⟩ Y zs []
  else if (o = 37 ∨ o = 38 ∨ o = 44) ∨ (11 ≤ o ∧ o ≤ 22) then sameB o k a b o k 0 0 T C N Y ⟨#[]⟩ ⟨#[]⟩ ⟨#[]⟩ ⟨#[]⟩ zs []
  else sameB o k a b o 0 0 0 T C N Y ⟨#[]⟩ ⟨#[]⟩ ⟨#[]⟩ ⟨#[]⟩ zs []

theorem Tab.nil (w : World) : Tab w (.slice none 0 0) [] := .inl ⟨rfl, rfl⟩
theorem sameOnly_calls (o k a b : Int) (T C N Y : ByteArray) (v : Value) (zs : List Int) (w : World) (ht : Tab w v zs) (hz : zs.length ≤ 1048576) :
    Calls Tryz.prog 18 #[insV o k a b T C N Y v, onlyV o k a b T C N Y v] w fun e w' => e = .returned (.bool (keptB o k a b T C N Y zs)) ∧ Below w.heap.size w w' := by
  unfold onlyV keptB
  by_cases h1 : o = 1 ∨ o = 24 ∨ o = 4 ∨ o = 5
  · rw [if_pos h1, if_pos h1]; exact sameIns_calls _ _ _ _ _ _ _ _ _ _ _ _ _ _ _ _ _ _ _ _ w ht (Tab.nil w) hz (by simp)
  rw [if_neg h1, if_neg h1]
  by_cases h2 : o = 2
  · rw [if_pos h2, if_pos h2]; exact sameIns_calls _ _ _ _ _ _ _ _ _ _ _ _ _ _ _ _ _ _ _ _ w ht (Tab.nil w) hz (by simp)
  rw [if_neg h2, if_neg h2]
  by_cases h3 : o = 6 ∨ (26 ≤ o ∧ o ≤ 29)
  · rw [if_pos h3, if_pos h3]; exact sameIns_calls _ _ _ _ _ _ _ _ _ _ _ _ _ _ _ _ _ _ _ _ w ht (Tab.nil w) hz (by simp)
  rw [if_neg h3, if_neg h3]
  by_cases h4 : o = 25
  · rw [if_pos h4, if_pos h4]; exact sameIns_calls _ _ _ _ _ _ _ _ _ _ _ _ _ _ _ _ _ _ _ _ w ht (Tab.nil w) hz (by simp)
  rw [if_neg h4, if_neg h4]
  by_cases h5 : o = 23 ∧ k = 3
  · rw [if_pos h5, if_pos h5]; exact sameIns_calls _ _ _ _ _ _ _ _ _ _ _ _ _ _ _ _ _ _ _ _ w ht (Tab.nil w) hz (by simp)
  rw [if_neg h5, if_neg h5]
  by_cases h6 : o = 23
  · rw [if_pos h6, if_pos h6]; exact sameIns_calls _ _ _ _ _ _ _ _ _ _ _ _ _ _ _ _ _ _ _ _ w ht (Tab.nil w) hz (by simp)
  rw [if_neg h6, if_neg h6]
  by_cases h7 : o = 30
  · rw [if_pos h7, if_pos h7]; exact sameIns_calls _ _ _ _ _ _ _ _ _ _ _ _ _ _ _ _ _ _ _ _ w ht ht hz hz
  rw [if_neg h7, if_neg h7]
  by_cases h8 : 31 ≤ o ∧ o ≤ 33
  · rw [if_pos h8, if_pos h8]; exact sameIns_calls _ _ _ _ _ _ _ _ _ _ _ _ _ _ _ _ _ _ _ _ w ht (Tab.nil w) hz (by simp)
  rw [if_neg h8, if_neg h8]
  by_cases h9 : o = 34
  · rw [if_pos h9, if_pos h9]; exact sameIns_calls _ _ _ _ _ _ _ _ _ _ _ _ _ _ _ _ _ _ _ _ w ht (Tab.nil w) hz (by simp)
  rw [if_neg h9, if_neg h9]
  by_cases ha : o = 35 ∨ o = 39 ∨ o = 40
  · rw [if_pos ha, if_pos ha]; exact sameIns_calls _ _ _ _ _ _ _ _ _ _ _ _ _ _ _ _ _ _ _ _ w ht (Tab.nil w) hz (by simp)
  rw [if_neg ha, if_neg ha]
  by_cases hb : (o = 37 ∨ o = 38 ∨ o = 44) ∨ (11 ≤ o ∧ o ≤ 22)
  · rw [if_pos hb, if_pos hb]; exact sameIns_calls _ _ _ _ _ _ _ _ _ _ _ _ _ _ _ _ _ _ _ _ w ht (Tab.nil w) hz (by simp)
  rw [if_neg hb, if_neg hb]
  exact sameIns_calls _ _ _ _ _ _ _ _ _ _ _ _ _ _ _ _ _ _ _ _ w ht (Tab.nil w) hz (by simp)
end Go.Proofs.YtcencddbdidjjaaGreatDoor

/- The specification's numbers at nought: Wrap, Convert, FloatOp. -/
namespace Go.Proofs.YtcencddbdidjjaaGreatDoor
set_option linter.unusedVariables false
open Go.ChangeShapes Go.WideShapes Go.ChangeAt Go.RowKit

theorem spec_high (n : Int) (h : 2147483648 ≤ n % 4294967296) : n % 4294967296 - 4294967296 = wrap32 n := by
  unfold wrap32; omega
theorem spec_low (n : Int) (h : n % 4294967296 < 2147483648) : n % 4294967296 = wrap32 n := by
  unfold wrap32; omega
theorem specWrap_calls (n : Int) (w : World) :
    Calls Tryz.prog 21 #[.int .i64 n] w fun e w' => e = .returned (.int .i64 (wrap32 n)) ∧ w' = w := by
  have ha := and32 n
  by_cases h : 2147483648 ≤ n % 4294967296
  · go_enter Tryz.func21, Tryz.ntmps21
    go_wp2
    go_ret
    exact ⟨by simp [spec_high n h], rfl⟩
  · have h' : n % 4294967296 < 2147483648 := by omega
    clear h
    go_enter Tryz.func21, Tryz.ntmps21
    go_wp2
    go_ret
    exact ⟨by simp [spec_low n h'], rfl⟩
theorem specWrap0_calls (w : World) : Calls Tryz.prog 21 #[.int .i64 0] w fun e w' => e = .returned (.int .i64 0) ∧ w' = w := by
  have h := specWrap_calls 0 w
  rwa [show wrap32 0 = 0 from by unfold wrap32; rfl] at h

theorem bits_zero (w : World) : Calls Tryz.prog 48 #[.int .i64 0] w fun e w' => e = .returned (.slice (some ⟨w.heap.size, 0, none⟩) 0 0) ∧ w' = w.alloc (.cells #[] 2) := by
  go_enter Tryz.func48, Tryz.ntmps48
  go_wp2
  go_loop [0, 3] (fun m v => m = .int .i64 0 ∧ v = .slice (some ⟨w.heap.size, 0, none⟩) 0 0) (fun _ _ => 0)
  case atStart => exact ⟨rfl, rfl⟩
  case round =>
    obtain ⟨rfl, rfl⟩ := hrel
    go_wp2
    go_ret
    exact ⟨rfl, rfl⟩
theorem signed_calls (s : Bool) (x : Int) (w : World) : Calls Tryz.prog 46 #[.bool s, .int .i64 x] w fun e w' => (∃ y, e = .returned (.int .i64 y)) ∧ w' = w := by
  cases s
  all_goals (
    go_enter Tryz.func46, Tryz.ntmps46
    go_wp2
    go_ret
    exact ⟨⟨_, rfl⟩, rfl⟩)
set_option maxRecDepth 1000000 in
set_option maxHeartbeats 1000000 in
theorem round_none (s m : Bool) (x : Int) (ad : Option Addr) (c : Nat) (w : World) : Calls Tryz.prog 47 #[.bool s, .slice ad 0 c, .int .i64 x, .bool m] w fun e w' => (∃ y, e = .returned (.int .i64 y)) ∧ w' = w := by
  go_enter Tryz.func47, Tryz.ntmps47
  go_wp2
  go_loop [9] (fun n => n = .int .i64 0) (fun _ => 0)
  case atStart => rfl
  case round =>
    obtain rfl := hrel
    go_wp2_with (go_at_call 46; refine (signed_calls _ _ _).mono ?_; rintro e w' ⟨⟨y, rfl⟩, he⟩; subst he)
    go_ret
    exact ⟨⟨_, rfl⟩, rfl⟩
set_option maxRecDepth 1000000 in
set_option maxHeartbeats 1000000 in
theorem round_one (s m : Bool) (x : Int) (g c : Nat) (w : World) (hc : w.cell? ⟨g, 0, none⟩ = some (.int .i64 0)) : Calls Tryz.prog 47 #[.bool s, .slice (some ⟨g, 0, none⟩) 1 c, .int .i64 x, .bool m] w fun e w' => (∃ y, e = .returned (.int .i64 y)) ∧ w' = w := by
  go_enter Tryz.func47, Tryz.ntmps47
  go_wp2
  go_loop [9] (fun n => n = .int .i64 0 ∨ n = .int .i64 1) (fun n => (intOf n).toNat)
  case atStart => exact .inr rfl
  case round =>
    rcases hrel with rfl | rfl
    · go_wp2_with (go_at_call 46; refine (signed_calls _ _ _).mono ?_; rintro e w' ⟨⟨y, rfl⟩, he⟩; subst he)
      go_ret
      exact ⟨⟨_, rfl⟩, rfl⟩
    · go_wp2
      go_round
      case rel => exact .inl rfl
      case measure => simp [intOf]
end Go.Proofs.YtcencddbdidjjaaGreatDoor
