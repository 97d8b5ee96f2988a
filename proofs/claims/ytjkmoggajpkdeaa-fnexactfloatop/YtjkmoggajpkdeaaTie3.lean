/- IEEE 754's sum, product and quotient of two words, told as the specification reckons them. -/
import Derived.Test.YtjkmoggajpkdeaaDiv0
import Derived.Test.YtjkmoggajpkdeaaTie2
namespace Go.Proofs.Ytjkmoggajpkdeaa
set_option linter.unusedVariables false
open Ieee

theorem K_bounds (a : Int) : 0 ≤ openK a ∧ openK a < 2048 ∧ 0 ≤ openF a ∧ openF a < 4503599627370496 := by unfold openK openF; omega
theorem M_bounds (a : Int) : 0 ≤ openM a ∧ openM a < 9007199254740992 := by
  have := K_bounds a
  unfold openM
  split
  · omega
  · split <;> omega
theorem E_bounds (a : Int) (h : openC a = 0) : -1074 ≤ openE a ∧ openE a ≤ 1000 := by
  have hk := K_bounds a
  have h7 : openK a ≠ 2047 := by intro h'; unfold openC at h; rw [if_pos h'] at h; split at h <;> omega
  unfold openE
  rw [if_neg h7]
  split <;> omega
theorem read_open (a : Int) (h1 : -9223372036854775808 ≤ a) (h2 : a < 9223372036854775808) (hc : openC a = 0) :
    double.read (IntKind.u64.wrap a).toNat = .number (decide (a < 0)) (openM a).toNat (openE a) := by
  have hk := K_bounds a
  have hr := rung_parts a
  have h7 : openK a ≠ 2047 := by intro h'; unfold openC at hc; rw [if_pos h'] at hc; split at hc <;> omega
  rw [word_of a h1 h2, read_finite _ _ (by omega)]
  congr 1
  · unfold sig openM
    rw [if_neg h7]
    split
    · rename_i h; rw [if_pos (by omega)]; omega
    · rename_i h; rw [if_neg (by omega)]; omega
  · unfold ex openE
    rw [if_neg h7]
    by_cases h0 : openK a = 0
    · rw [if_pos h0]; omega
    · rw [if_neg h0]; omega
theorem read_open_inf (a : Int) (h1 : -9223372036854775808 ≤ a) (h2 : a < 9223372036854775808) (hc : openC a = 1) :
    double.read (IntKind.u64.wrap a).toNat = .infinity (decide (a < 0)) := by
  have hk := K_bounds a
  have hr := rung_parts a
  have h7 : openK a = 2047 ∧ openF a = 0 := by
    unfold openC at hc
    split at hc
    · rename_i h; split at hc
      · rename_i h'; exact ⟨h, h'⟩
      · omega
    · omega
  rw [word_of a h1 h2, show rung a = 9218868437227405312 by omega, read_inf]
theorem read_open_nan (a : Int) (h1 : -9223372036854775808 ≤ a) (h2 : a < 9223372036854775808) (hc : openC a = 2) :
    ∃ f, double.read (IntKind.u64.wrap a).toNat = .nan (decide (a < 0)) f := by
  have hn : isNo a := (class_no a).1 hc
  rw [word_of a h1 h2]
  exact ⟨_, read_nan _ _ hn (rung_lt a)⟩
theorem class_three (a : Int) : openC a = 0 ∨ openC a = 1 ∨ openC a = 2 := by
  unfold openC; split
  · split
    · exact .inr (.inl rfl)
    · exact .inr (.inr rfl)
  · exact .inl rfl

theorem rnd_lt (M : Nat) (e : Int) (more : Bool) : rndOf M e more < 9223372036854775808 := by
  unfold rndOf
  split
  · omega
  · rename_i h; exact round_lt M e more h
theorem rnd_le (M : Nat) (e : Int) (more : Bool) : rndOf M e more ≤ 9218868437227405312 := by
  unfold rndOf
  split
  · omega
  · rename_i h
    have hb := q_bounds M e more h
    rw [← rung_min _ _ hb.1 hb.2 (unit_ge M e)]
    omega
theorem order_word (s : Bool) (r : Nat) (h : r ≤ 9218868437227405312) : FloatKind.f64.format.order (double.word s r) (double.word s r) = some .eq := by
  show (double.read _).order (double.read _) = _
  rcases Nat.lt_or_ge r 9218868437227405312 with h' | h'
  · rw [read_finite s r h']; exact order_self _ _ _
  · rw [show r = 9218868437227405312 by omega, read_inf]
    cases s <;> rfl

/-- The sum of two numbers. -/
theorem sum_numbers (s t : Bool) (m n : Nat) (e f : Int) (X Y : Nat) (hX : m * 2 ^ (e - min e f).toNat = X) (hY : n * 2 ^ (f - min e f).toNat = Y) :
    (Datum.number s m e).sum (.number t n f) = some (.number (if s = t then s else if X < Y then t else s && decide (0 < X - Y)) (if s = t then X + Y else if X < Y then Y - X else X - Y) (min e f)) := by
  simp only [Datum.sum, signed, Nat.shiftLeft_eq, hX, hY]
  cases s <;> cases t
  · simp; omega
  · simp
    by_cases h : X < Y
    · simp [h]; omega
    · simp [h]; omega
  · simp
    by_cases h : X < Y
    · simp [h]; omega
    · by_cases h' : X = Y
      · subst h'; simp; omega
      · have h1 : Y < X := by omega
        have h2 : ¬ (-(X : Int) + (Y : Int) = 0) := by omega
        have h3 : -(X : Int) + (Y : Int) < 0 := by omega
        have h4 : (-(X : Int) + (Y : Int)).natAbs = X - Y := by omega
        simp [h, h2, h3, h4]; omega
  · simp; omega

/-- The quotient of two numbers, to so many digits. -/
theorem quo_digits (m n a k : Nat) (hn : n ≠ 0) (e : Int) (hL : 53 ≤ (divQ m n a).log2) :
    rndOf (divQ m n a) (e - a) (decide (0 < divR m n a)) = rndOf (divQ m n (a + k)) (e - (a + k : Nat)) (decide (0 < divR m n (a + k))) ∧ 53 ≤ (divQ m n (a + k)).log2 := by
  induction k with
  | zero => exact ⟨rfl, hL⟩
  | succ k ih =>
    obtain ⟨h1, h2⟩ := ih
    have hd := digit_le m n (a + k) hn
    have hq := divQ_succ m n (a + k) hn
    have hr := divR_succ m n (a + k)
    have h0 : divQ m n (a + k) ≠ 0 := by intro h; rw [h] at h2; simp at h2
    have hlog := log2_double (divQ m n (a + k)) _ hd h0
    have hst := round_step (divQ m n (a + k)) (divR m n (a + k) * 2 / n) hd (e - (a + k : Nat)) (decide (0 < divR m n (a + k))) (decide (0 < divR m n (a + k + 1))) (by
      rw [hr]
      simp only [decide_eq_true_eq]
      have hdm := Nat.div_add_mod (divR m n (a + k) * 2) n
      constructor
      · intro h
        by_cases h' : divR m n (a + k) * 2 / n = 1
        · exact .inl h'
        · right
          rw [Nat.lt_one_iff.1 (Nat.lt_of_le_of_ne hd h')] at hdm
          omega
      · rintro (h | h)
        · rw [h] at hdm
          omega
        · rcases Nat.eq_zero_or_pos (divR m n (a + k)) with hz | hz
          · rw [hz] at h; simp at h
          · exact hz) h2
    rw [← hq, show e - ((a + k : Nat) : Int) - 1 = e - ((a + (k + 1) : Nat) : Int) by omega] at hst
    exact ⟨h1.trans hst, by rw [show a + (k + 1) = a + k + 1 by omega, hq, hlog]; omega⟩
end Go.Proofs.Ytjkmoggajpkdeaa
