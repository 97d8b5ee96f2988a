/- spec.l1Up on rows of bits: so many noughts below. -/
import Derived.Test.YtjkmoggajpkdeaaSum
import Derived.Laws.OwnMore
import Derived.Laws.AppendOwnNone
namespace Go.Proofs.Ytjkmoggajpkdeaa
set_option linter.unusedVariables false
open Go.ChangeShapes Go.WideShapes Go.ChangeAt Go.RowKit

theorem bitRow_up (M k n : Nat) : bitRow (M * 2 ^ n) (n + k) = List.replicate n (.int .i64 0) ++ bitRow M k := by
  apply List.ext_getElem?
  intro j
  by_cases hj : j < n
  · rw [List.getElem?_append_left (by simpa using hj)]
    have : M * 2 ^ n / 2 ^ j % 2 = 0 := by
      have e : 2 ^ n = 2 ^ j * (2 * 2 ^ (n - j - 1)) := by
        rw [← Nat.pow_succ', ← Nat.pow_add]; congr 1; omega
      rw [e, show M * (2 ^ j * (2 * 2 ^ (n - j - 1))) = 2 ^ j * (2 * (M * 2 ^ (n - j - 1))) by simp [Nat.mul_left_comm], Nat.mul_div_cancel_left _ (Nat.two_pow_pos j)]
      omega
    simp only [bitRow, List.getElem?_map, List.getElem?_range (show j < n + k by omega), Option.map_some, this, List.getElem?_replicate, hj, if_true]
    rfl
  · rw [List.getElem?_append_right (by simpa using Nat.le_of_not_lt hj)]
    have h2 : M * 2 ^ n / 2 ^ j = M / 2 ^ (j - n) := by
      have e : 2 ^ j = 2 ^ n * 2 ^ (j - n) := by rw [← Nat.pow_add]; congr 1; omega
      rw [e, Nat.mul_comm M, Nat.mul_div_mul_left _ _ (Nat.two_pow_pos n)]
    simp only [bitRow, List.length_replicate, List.getElem?_map]
    by_cases hk : j < n + k
    · simp only [List.getElem?_range hk, List.getElem?_range (show j - n < k by omega), Option.map_some, h2]
    · simp [hk, show ¬ j - n < k by omega]
theorem up_zero (M k n : Nat) (h : M / 2 ^ k = 0) : M * 2 ^ n / 2 ^ (n + k) = 0 := by
  rw [Nat.pow_add, Nat.mul_comm M, Nat.mul_div_mul_left _ _ (Nat.two_pow_pos n)]; exact h

theorem bitRow_cells {w : World} {g k M : Nat} (hc : ∀ j, j < k → w.cell? ⟨g, j, none⟩ = some (.int .i64 ((M / 2 ^ j % 2 : Nat) : Int))) : ∀ j u, (bitRow M k)[j]? = some u → w.cell? ((⟨g, 0, none⟩ : Addr).add j) = some u := by
  intro j u hj
  have hadd : (⟨g, 0, none⟩ : Addr).add j = ⟨g, j, none⟩ := by unfold Addr.add; split <;> simp_all
  have hjk : j < k := by
    have := (List.getElem?_eq_some_iff.1 hj).1
    simpa [bitRow] using this
  rw [hadd, hc j hjk]
  simp only [bitRow, List.getElem?_map, List.getElem?_range hjk, Option.map_some] at hj
  exact hj
theorem bitRow_one (M k : Nat) : ∀ u ∈ bitRow M k, u.oneCell' = true := by
  intro u hu
  simp only [bitRow, List.mem_map] at hu
  obtain ⟨i, _, rfl⟩ := hu
  rfl

theorem up_calls (v : Value) (k M n : Nat) (hn : n ≤ 10000) (w : World) (hv : RowB w v k M) :
    Calls Try.prog 14 #[v, .int .i64 (n : Int)] w fun e w' => ∃ r, e = .returned r ∧ w'.ownsRow w.heap.size 2 1 r (n + k) (bitRow (M * 2 ^ n) (n + k)) ∧ Below w.heap.size w w' := by
  obtain ⟨i0, hi0⟩ : ∃ i, Try.prog.info? 2 = some i := Option.isSome_iff_exists.1 (by kernel_rfl)
  have hz0 : i0.zero = some (.int .i64 0) := by have : (Try.prog.info? 2).bind (·.zero) = some (.int .i64 0) := by kernel_rfl
                                                rw [hi0] at this; exact this
  have hz1 : i0.size = 1 := by have : (Try.prog.info? 2).map (·.size) = some 1 := by kernel_rfl
                               rw [hi0] at this; exact Option.some.inj this
  have hz2 : i0.bytes = 8 := by have : (Try.prog.info? 2).map (·.bytes) = some 8 := by kernel_rfl
                                rw [hi0] at this; exact Option.some.inj this
  have hrow := bitRow_up M k n
  have hrowH : Hid _ := hrow
  clear hrow
  obtain ⟨⟨_, hk, ⟨rfl, rfl⟩ | ⟨g, cap, rfl, hc⟩⟩, hg⟩ := hv
  · clear hg
    go_enter Try.func14, Try.ntmps14
    go_wp2_with (first | (refine wpList_make_full _ rfl (.tmp 5) (.tmp 5) 39 rfl w.heap.size 2 i0 (.int .i64 0) 1 Try.underlying39 hi0 hz0 hz1 .i64 .i64 (n : Int) (n : Int) n rfl rfl rfl rfl (by rw [hz2]; omega) (by unfold maxLen; omega) (Nat.le_refl _) ?_; intro w1 hown1 hgrow1) | (at_builtin; refine wpList_append_own_none rfl (.tmp 6) (.tmp 7) 39 rfl w.heap.size 2 i0 1 Try.underlying39 hi0 _ _ _ rfl hown1 rfl ?_))
    go_ret
    exact ⟨_, rfl, by rw [hrowH.out]; simpa [bitRow, Value.cells, toList_madeCells_one] using hown1, (Below.refl _ _).grown hgrow1 (Nat.le_refl _) (fun j hj => by cases hj)⟩
  · have hg := hg g cap rfl
    have hcH : Hid _ := hc
    clear hc
    go_enter Try.func14, Try.ntmps14
    go_wp2_with (first | (refine wpList_make_full _ rfl (.tmp 5) (.tmp 5) 39 rfl w.heap.size 2 i0 (.int .i64 0) 1 Try.underlying39 hi0 hz0 hz1 .i64 .i64 (n : Int) (n : Int) n rfl rfl rfl rfl (by rw [hz2]; omega) (by unfold maxLen; omega) (Nat.le_refl _) ?_; intro w1 hown1 hgrow1) | (at_builtin; refine wpList_append_own _ rfl (.tmp 6) (.tmp 7) 39 rfl w.heap.size 2 i0 (.int .i64 0) 1 8 Try.underlying39 hi0 hz0 hz1 hz2 rfl (by decide) _ _ _ rfl hown1 ⟨g, 0, none⟩ k cap (bitRow M k) rfl (by simp [bitRow_length]) (bitRow_cells (fun j hj => hgrow1.cell (hcH.out j hj) (by simp))) (bitRow_one M k) (by unfold maxLen; omega) (by omega) hgrow1.size ?_; intro v' w2 hown2 hgrow2 _))
    go_ret
    have hb1 : Below w.heap.size w w1 := (Below.refl _ _).grown hgrow1 (Nat.le_refl _) (fun j hj => by cases hj)
    exact ⟨_, rfl, by rw [hrowH.out]; simpa [Value.cells, toList_madeCells_one] using hown2, hb1.grown hgrow2 hgrow1.size (fun j hj => Nat.le_of_eq (Option.some.inj hj))⟩
end Go.Proofs.Ytjkmoggajpkdeaa
