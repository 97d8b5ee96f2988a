/- spec.l1At on rows of bits: what it answers. -/
import Derived.Test.YtjkmoggajpkdeaaWalk1
namespace Go.Proofs.Ytjkmoggajpkdeaa
open Go.ChangeShapes Go.WideShapes Go.ChangeAt Go.RowKit

/-- A slice that holds the lowest k bits of M, which has no more. -/
def Row (w : World) (v : Value) (k M : Nat) : Prop :=
  M / 2 ^ k = 0 ∧ k ≤ 20000 ∧ ((v = .slice none 0 0 ∧ k = 0) ∨ ∃ g cap, v = .slice (some ⟨g, 0, none⟩) k cap ∧ ∀ j, j < k → w.cell? ⟨g, j, none⟩ = some (.int .i64 ((M / 2 ^ j % 2 : Nat) : Int)))

theorem row_beyond {k M : Nat} (h : M / 2 ^ k = 0) (i : Nat) (hi : k ≤ i) : M / 2 ^ i = 0 := by
  have hp := Nat.two_pow_pos k
  have hlt : M < 2 ^ k := by
    rcases Nat.lt_or_ge M (2 ^ k) with h' | h'
    · exact h'
    · have := Nat.div_pos h' hp; omega
  exact Nat.div_eq_of_lt (Nat.lt_of_lt_of_le hlt (Nat.pow_le_pow_right (by decide) hi))

theorem at_calls (v : Value) (k M i : Nat) (w : World) (h : Row w v k M) :
    Calls Try.prog 23 #[v, .int .i64 (i : Int)] w fun e w' => e = .returned (.int .i64 ((M / 2 ^ i % 2 : Nat) : Int)) ∧ w' = w := by
  obtain ⟨hz, hk, hv⟩ := h
  by_cases hi : i < k
  · rcases hv with ⟨rfl, rfl⟩ | ⟨g, cap, rfl, hc⟩
    · omega
    · have hcell := hc i hi
      have hi' : (i : Int) < (k : Int) := by omega
      clear hc hz
      generalize M / 2 ^ i % 2 = b at *
      go_enter Try.func23, Try.ntmps23
      go_wp2
      go_ret
      exact ⟨rfl, rfl⟩
  · have hb : M / 2 ^ i % 2 = 0 := by rw [row_beyond hz i (by omega)]
    rw [hb]
    have hi' : ¬ (i : Int) < (k : Int) := by omega
    rcases hv with ⟨rfl, rfl⟩ | ⟨g, cap, rfl, hc⟩
    · clear hz hb
      go_enter Try.func23, Try.ntmps23
      go_wp2
      go_ret
      exact ⟨rfl, rfl⟩
    · clear hc hz hb
      go_enter Try.func23, Try.ntmps23
      go_wp2
      go_ret
      exact ⟨rfl, rfl⟩

/-- What spec.l1At gives of a slice at a place, in one world. -/
structure AtIs (w : World) (v : Value) (i p : Nat) : Prop where
  out : Calls Try.prog 23 #[v, .int .i64 (i : Int)] w fun e w2 => e = .returned (.int .i64 (p : Int)) ∧ w2 = w
theorem at_is {w : World} {v : Value} {i p : Nat} (h : AtIs w v i p) : Calls Try.prog 23 #[v, .int .i64 (i : Int)] w fun e w' => e = .returned (.int .i64 (p : Int)) ∧ w' = w := h.out

theorem less_step (A B j : Nat) (h : A / 2 ^ (j + 1) = B / 2 ^ (j + 1)) : (A / 2 ^ j % 2 = B / 2 ^ j % 2 → A / 2 ^ j = B / 2 ^ j) ∧ (A / 2 ^ j % 2 ≠ B / 2 ^ j % 2 → (A < B ↔ A / 2 ^ j % 2 < B / 2 ^ j % 2)) := by
  have hp := Nat.two_pow_pos j
  rw [Nat.pow_succ, ← Nat.div_div_eq_div_mul, ← Nat.div_div_eq_div_mul] at h
  refine ⟨fun he => by omega, fun hne => ?_⟩
  have hlt : A < B ↔ A / 2 ^ j < B / 2 ^ j := by
    constructor
    · intro hab
      have := Nat.div_le_div_right (c := 2 ^ j) (Nat.le_of_lt hab)
      omega
    · intro hab
      rcases Nat.lt_or_ge A B with h' | h'
      · exact h'
      · have := Nat.div_le_div_right (c := 2 ^ j) h'
        omega
  rw [hlt]
  omega

end Go.Proofs.Ytjkmoggajpkdeaa
