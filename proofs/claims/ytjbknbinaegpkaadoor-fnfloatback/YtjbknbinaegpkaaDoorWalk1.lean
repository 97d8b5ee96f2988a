/- spec.l1Signed and spec.l1Bits: what they answer. -/
import Derived.Test.YtjbknbinaegpkaaDoorOpen
import Derived.Test.YtjbknbinaegpkaaDoorRound
import Derived.OwnWalk
import Derived.LoopTactic
import Derived.Below
import Derived.WalkSpells
namespace Go.Proofs.YtjbknbinaegpkaaDoor
open Go.ChangeShapes Go.WideShapes Go.ChangeAt Go.RowKit

def signedOf (s : Bool) (n : Int) : Int := if s then bits .or .i64 n (-9223372036854775808) else n
theorem signed_calls (s : Bool) (n : Int) (w : World) : Calls Tryd.prog 25 #[.bool s, .int .i64 n] w fun e w' => e = .returned (.int .i64 (signedOf s n)) ∧ w' = w := by
  cases s
  · go_enter Tryd.func25, Tryd.ntmps25
    go_wp2
    go_ret
    exact ⟨rfl, rfl⟩
  · go_enter Tryd.func25, Tryd.ntmps25
    go_wp2
    go_ret
    exact ⟨rfl, rfl⟩

/-- The lowest k bits of M, as cells. -/
def bitRow (M k : Nat) : List Value := (List.range k).map fun i => .int .i64 ((M / 2 ^ i % 2 : Nat) : Int)
theorem bitRow_length (M k : Nat) : (bitRow M k).length = k := by simp [bitRow]
theorem bitRow_succ (M k : Nat) : bitRow M (k + 1) = bitRow M k ++ [.int .i64 ((M / 2 ^ k % 2 : Nat) : Int)] := by simp [bitRow, List.range_succ]

theorem bits_calls (M : Nat) (hM : M < 9223372036854775808) (w : World) : Calls Tryd.prog 29 #[.int .i64 (M : Int)] w fun e w' =>
    ∃ v k, k ≤ 63 ∧ M / 2 ^ k = 0 ∧ e = .returned v ∧ w'.ownsRow w.heap.size 2 1 v k (bitRow M k) ∧ Below w.heap.size w w' := by
  obtain ⟨i0, hi⟩ : ∃ i, Tryd.prog.info? 2 = some i := Option.isSome_iff_exists.1 (by kernel_rfl)
  have hz0 : i0.zero = some (.int .i64 0) := by have : (Tryd.prog.info? 2).bind (·.zero) = some (.int .i64 0) := by kernel_rfl
                                                rw [hi] at this; exact this
  have hz1 : i0.size = 1 := by have : (Tryd.prog.info? 2).map (·.size) = some 1 := by kernel_rfl
                               rw [hi] at this; exact Option.some.inj this
  have hz2 : i0.bytes = 8 := by have : (Tryd.prog.info? 2).map (·.bytes) = some 8 := by kernel_rfl
                                rw [hi] at this; exact Option.some.inj this
  go_enter Tryd.func29, Tryd.ntmps29
  go_wp2
  go_loopw [0, 3] (fun m v wr => ∃ k : Nat, k ≤ 63 ∧ m = .int .i64 ((M / 2 ^ k : Nat) : Int) ∧ wr.ownsRow w.heap.size 2 1 v k (bitRow M k) ∧ Below w.heap.size w wr) (fun m _ _ => (intOf m).toNat)
  case atStart => exact ⟨0, by omega, by simp, ⟨by simp [bitRow], .inr ⟨w.heap.size, 0, #[], rfl, Nat.le_refl _, heap_alloc_last w _, Nat.le_refl _, Nat.zero_le _, rfl, by simp [bitRow]⟩⟩, (Below.refl _ _).alloc (Nat.le_refl _) _⟩
  case round =>
    obtain ⟨k, hk, rfl, hown, hbel⟩ := hrel
    by_cases hx : M / 2 ^ k = 0
    · rw [hx]
      go_wp2
      go_ret
      exact ⟨_, k, hk, hx, rfl, hown, hbel⟩
    · have hk2 : k < 63 := by
        rcases Nat.lt_or_ge k 63 with h | h
        · exact h
        · exact absurd (Nat.div_eq_of_lt (Nat.lt_of_lt_of_le (Nat.lt_of_lt_of_eq hM (by decide : (9223372036854775808 : Nat) = 2 ^ 63)) (Nat.pow_le_pow_right (by decide) h))) hx
      have hle : M / 2 ^ k ≤ M := Nat.div_le_self _ _
      have hdiv : M / 2 ^ (k + 1) = M / 2 ^ k / 2 := by rw [Nat.pow_succ, Nat.div_div_eq_div_mul]
      have hrow := bitRow_succ M k
      generalize M / 2 ^ k = x at *
      have hpos : 0 < x := by omega
      have hbd : x ≤ 9223372036854775807 := by omega
      clear hx hle hM
      have hrow' : Hid (bitRow M (k + 1) = bitRow M k ++ [.int .i64 ((x % 2 : Nat) : Int)]) := hrow
      have hdiv' : Hid (M / 2 ^ (k + 1) = x / 2) := hdiv
      clear hrow hdiv
      go_wp2_with (at_builtin; refine wpList_append_own _ rfl _ _ 50 rfl w.heap.size 2 i0 (.int .i64 0) 1 8 Tryd.underlying50 hi hz0 hz1 hz2 rfl (by decide) _ _ _ rfl (hown.alloc _) ⟨wr.heap.size, 0, none⟩ 1 1 [.int .i64 ((x % 2 : Nat) : Int)] rfl rfl ?c1 ?c2 ?c3 ?c4 ?c5 ?_)
      case c1 =>
        intro j u hj
        match j, hj with
        | 0, hj => simp at hj; subst hj; simp [Addr.add]
      case c2 => intro u hu; simp at hu; subst hu; rfl
      case c3 => unfold maxLen; omega
      case c4 => omega
      case c5 => have := hbel.size; simp; omega
      · intro v' w1 hown' hgrow _
        have hb1 : Below w.heap.size w w1 := (hbel.alloc hbel.size _).grown hgrow (by have := hbel.size; simp; omega) (fun j hj => by
          obtain ⟨_, ⟨rfl, _⟩ | ⟨g, cap, cur, rfl, hg, _⟩⟩ := hown
          · simp [Value.ownBlock] at hj
          · simp [Value.ownBlock] at hj; omega)
        clear hgrow hown
        go_wp2
        go_roundw
        case rel => exact ⟨k + 1, by omega, by rw [hdiv'.out]; go_num, by rw [hrow'.out]; exact hown', hb1⟩
        case measure => simp [intOf]; omega
end Go.Proofs.YtjbknbinaegpkaaDoor
