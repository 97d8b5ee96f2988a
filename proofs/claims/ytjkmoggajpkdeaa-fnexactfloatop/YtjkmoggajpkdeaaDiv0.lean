/- Plain facts for spec.l1FloatDiv: the digits of a quotient. -/
import Derived.Test.YtjkmoggajpkdeaaMul
namespace Go.Proofs.Ytjkmoggajpkdeaa
set_option linter.unusedVariables false
open Go.ChangeShapes Go.WideShapes Go.ChangeAt Go.RowKit

/-- The quotient to i binary digits behind the point, and what is left. -/
def divQ (m n i : Nat) : Nat := m * 2 ^ i / n
def divR (m n i : Nat) : Nat := m * 2 ^ i % n
theorem divQ_zero (m n : Nat) : divQ m n 0 = m / n := by simp [divQ]
theorem divR_zero (m n : Nat) : divR m n 0 = m % n := by simp [divR]
theorem divR_lt (m n i : Nat) (h : n ≠ 0) : divR m n i < n := Nat.mod_lt _ (by omega)
theorem div_parts (m n i : Nat) : m * 2 ^ (i + 1) = n * (2 * divQ m n i) + divR m n i * 2 := by
  have := Nat.div_add_mod (m * 2 ^ i) n
  unfold divQ divR
  rw [Nat.pow_succ, ← Nat.mul_assoc, ← this]
  rw [show n * (2 * ((n * (m * 2 ^ i / n) + m * 2 ^ i % n) / n)) = n * (2 * (m * 2 ^ i / n)) by rw [this]]
  rw [show (n * (m * 2 ^ i / n) + m * 2 ^ i % n) % n = m * 2 ^ i % n by rw [this]]
  rw [Nat.add_mul, Nat.mul_assoc, Nat.mul_comm (m * 2 ^ i / n) 2]
theorem divQ_succ (m n i : Nat) (h : n ≠ 0) : divQ m n (i + 1) = 2 * divQ m n i + divR m n i * 2 / n := by
  rw [divQ, div_parts m n i, Nat.mul_add_div (by omega)]
theorem divR_succ (m n i : Nat) : divR m n (i + 1) = divR m n i * 2 % n := by
  rw [divR, div_parts m n i, Nat.mul_add_mod]
theorem digit_le (m n i : Nat) (h : n ≠ 0) : divR m n i * 2 / n ≤ 1 := by
  have := divR_lt m n i h
  have : divR m n i * 2 / n < 2 := Nat.div_lt_of_lt_mul (by omega)
  omega
theorem bitRow_cons (Q d k : Nat) (hd : d ≤ 1) : bitRow (2 * Q + d) (k + 1) = .int .i64 (d : Int) :: bitRow Q k := by
  apply List.ext_getElem?
  intro j
  cases j with
  | zero =>
    simp only [bitRow, List.getElem?_map, List.getElem?_range (Nat.zero_lt_succ k), Option.map_some, List.getElem?_cons_zero, Nat.pow_zero, Nat.div_one]
    rw [show (2 * Q + d) % 2 = d by omega]
  | succ j =>
    simp only [bitRow, List.getElem?_map, List.getElem?_cons_succ]
    by_cases hj : j < k
    · rw [List.getElem?_range (by omega), List.getElem?_range hj]
      simp only [Option.map_some]
      rw [show (2 * Q + d) / 2 ^ (j + 1) = Q / 2 ^ j by rw [Nat.pow_succ', ← Nat.div_div_eq_div_mul]; congr 1; omega]
    · simp [hj]
theorem revRow_snoc (Q d k : Nat) (hd : d ≤ 1) : (bitRow (2 * Q + d) (k + 1)).reverse = (bitRow Q k).reverse ++ [.int .i64 (d : Int)] := by
  rw [bitRow_cons Q d k hd, List.reverse_cons]
theorem revRow_cons (Q j : Nat) : (bitRow Q (j + 1)).reverse = .int .i64 ((Q / 2 ^ j % 2 : Nat) : Int) :: (bitRow Q j).reverse := by
  rw [bitRow_succ, List.reverse_append]; rfl
theorem next_zero (Q d k : Nat) (hd : d ≤ 1) (h : Q / 2 ^ k = 0) : (2 * Q + d) / 2 ^ (k + 1) = 0 := by
  rw [Nat.pow_succ', ← Nat.div_div_eq_div_mul, show (2 * Q + d) / 2 = Q by omega]; exact h
theorem revRow_at (Q k i : Nat) (h : i < k) : (bitRow Q k).reverse[i]? = some (.int .i64 ((Q / 2 ^ (k - 1 - i) % 2 : Nat) : Int)) := by
  rw [List.getElem?_reverse (by simpa [bitRow] using h)]
  simp only [bitRow, List.length_map, List.length_range, List.getElem?_map]
  rw [List.getElem?_range (by omega)]
  rfl
theorem revRow_one (M k : Nat) : ∀ u ∈ (bitRow M k).reverse, u.oneCell' = true := fun u hu => bitRow_one M k u (List.mem_reverse.1 hu)
theorem owned_some {w : World} {base n : Nat} {v : Value} {xs : List Value} (h : w.ownsRow base 2 1 v (n + 1) xs) : ∃ g cap, v = .slice (some ⟨g, 0, none⟩) (n + 1) cap ∧ base ≤ g ∧ g < w.heap.size := by
  have hlt := h.lt
  obtain ⟨_, ⟨_, h0⟩ | ⟨g, cap, cur, rfl, hg, _⟩⟩ := h
  · omega
  · exact ⟨g, cap, rfl, hg, (hlt g rfl).2⟩
end Go.Proofs.Ytjkmoggajpkdeaa
