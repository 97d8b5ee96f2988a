/- The specification and the program give the same of two floats: quotients; and at every op. -/
import Derived.Test.YtjkmoggajpkdeaaBoth3
namespace Go.Proofs.Ytjkmoggajpkdeaa
set_option linter.unusedVariables false
open Go.ChangeShapes Go.WideShapes Go.ChangeAt Go.RowKit

/-- The quotient's digits as IEEE 754's quotient takes them, rounded, are the specification's, rounded. -/
theorem quo_same (m n : Nat) (hm0 : m ≠ 0) (hm : m < 9007199254740992) (hn : n ≠ 0) (hn2 : n < 9007199254740992) (e : Int) :
    rndOf (2 * (m <<< (54 + n.log2 - m.log2) / n) + (m <<< (54 + n.log2 - m.log2) % n != 0).toNat) (e - (54 + n.log2 - m.log2 : Nat) - 1) false = rndOf (divQ m n 110) (e - 110) (decide (0 < divR m n 110)) := by
  have hlm : m.log2 < 53 := (Nat.log2_lt hm0).2 (Nat.lt_of_lt_of_eq hm (by decide))
  have hln : n.log2 < 53 := (Nat.log2_lt hn).2 (Nat.lt_of_lt_of_eq hn2 (by decide))
  obtain ⟨k, hk⟩ : ∃ k, 54 + n.log2 - m.log2 = k := ⟨_, rfl⟩
  rw [hk, Nat.shiftLeft_eq]
  have hL : 53 ≤ (divQ m n k).log2 := by
    have h1 : 2 ^ 53 ≤ m * 2 ^ k / n := by
      rw [Nat.le_div_iff_mul_le (by omega)]
      have hm1 : 2 ^ m.log2 ≤ m := Nat.log2_self_le hm0
      have hn1 : n < 2 ^ (n.log2 + 1) := Nat.lt_log2_self
      calc 2 ^ 53 * n ≤ 2 ^ 53 * 2 ^ (n.log2 + 1) := Nat.mul_le_mul_left _ (Nat.le_of_lt hn1)
        _ = 2 ^ (m.log2 + k) := by rw [← Nat.pow_add]; congr 1; omega
        _ = 2 ^ m.log2 * 2 ^ k := Nat.pow_add _ _ _
        _ ≤ m * 2 ^ k := Nat.mul_le_mul_right _ hm1
    have h0 : divQ m n k ≠ 0 := by
      intro h
      unfold divQ at h
      rw [h] at h1
      exact absurd h1 (by decide)
    exact (Nat.le_log2 h0).2 h1
  have hb : (m * 2 ^ k % n != 0).toNat ≤ 1 := Bool.toNat_le _
  have hst := round_step (divQ m n k) ((m * 2 ^ k % n != 0).toNat) hb (e - (k : Nat)) (decide (0 < divR m n k)) false (by
    simp only [decide_eq_true_eq, Bool.false_eq_true, or_false]
    show 0 < m * 2 ^ k % n ↔ _
    rcases Nat.eq_zero_or_pos (m * 2 ^ k % n) with h | h
    · simp [h]
    · have h' : (m * 2 ^ k % n != 0) = true := by simp; omega
      rw [h']
      simp; omega) hL
  have hq := (quo_digits m n k (110 - k) hn e hL).1
  rw [show k + (110 - k) = 110 by omega] at hq
  show rndOf (2 * divQ m n k + _) _ _ = _
  rw [← hst, hq]
  rfl

theorem div_spec (a b : Int) (s t : Bool) (ha : openC a = 0 ∨ openC a = 1) (hb : openC b = 0 ∨ openC b = 1) (da db : Ieee.Datum)
    (hda : da = if openC a = 0 then .number s (openM a).toNat (openE a) else .infinity s) (hdb : db = if openC b = 0 then .number t (openM b).toNat (openE b) else .infinity t) :
    ∃ r : Int, (∀ W, Calls Try.prog 9 #[.agg #[.bool s, .int .i64 (openM a), .int .i64 (openE a), .int .i64 (openC a)], .agg #[.bool t, .int .i64 (openM b), .int .i64 (openE b), .int .i64 (openC b)]] W fun e W' => e = .returned (.int .i64 r) ∧ Below W.heap.size W W') ∧
      ((da.quotient 54 db = none ∧ r = 9221120237041090560) ∨ ∃ s q, (da.quotient 54 db).map Ieee.double.write = some (Ieee.double.word s q) ∧ q ≤ 9218868437227405312 ∧ r = wrap64 ((Ieee.double.word s q : Nat) : Int)) := by
  by_cases hfin : openC a = 0 ∧ openC b = 0 ∧ openM b ≠ 0
  · obtain ⟨ha, hb, hn⟩ := hfin
    rw [if_pos ha] at hda
    rw [if_pos hb] at hdb
    subst hda hdb
    have hE := E_bounds a ha
    have hF := E_bounds b hb
    have hn0 : (openM b).toNat ≠ 0 := fun h => hn ((M_zero b).1 h)
    have h := fun W => divFin_calls s t (openM a).toNat (openM b).toNat (openE a) (openE b) (M_lt a) (M_lt b) hn0 hE.1 hE.2 hF.1 hF.2 W
    unfold real at h
    rw [M_nat, M_nat, ← ha] at h
    rw [ha] at h
    refine ⟨signedOf (!s == t) ((rndOf (divQ (openM a).toNat (openM b).toNat 110) (openE a - openE b - 110) (decide (0 < divR (openM a).toNat (openM b).toNat 110)) : Nat) : Int), fun W => ?_, .inr ⟨!s == t, rndOf (divQ (openM a).toNat (openM b).toNat 110) (openE a - openE b - 110) (decide (0 < divR (openM a).toNat (openM b).toNat 110)), ?_, rnd_le _ _ _, signed_word _ _ (rnd_lt _ _ _)⟩⟩
    · rw [ha, hb]; exact h W
    · rw [← xor_not]
      show Option.map _ (if (openM b).toNat = 0 then _ else some (Ieee.Datum.number (s ^^ t) _ _)) = _
      rw [if_neg hn0]
      refine congrArg some ((write_rnd _ _ _).trans (congrArg _ ?_))
      by_cases hm0 : (openM a).toNat = 0
      · rw [hm0]
        simp [rndOf, divQ]
      · exact quo_same _ _ hm0 (M_lt a) hn0 (M_lt b) (openE a - openE b)
  · have h := fun W => divOdd_calls s t (openM a) (openM b) (openE a) (openE b) (openC a) (openC b) ha hb (by omega) W
    rcases ha with ha | ha <;> rcases hb with hb | hb
    · have hn : openM b = 0 := by omega
      rw [if_pos ha] at hda
      rw [if_pos hb, (M_zero b).2 hn] at hdb
      subst hda hdb
      by_cases hm : openM a = 0
      · refine ⟨_, fun W => ?_, .inl ⟨?_, rfl⟩⟩
        · have := h W
          rw [if_pos (.inr ⟨ha, hb, hm, hn⟩)] at this
          exact this
        · rw [(M_zero a).2 hm]
          rfl
      · refine ⟨_, fun W => ?_, .inr ⟨!s == t, 9218868437227405312, ?_, Nat.le_refl _, (inf_word _).symm⟩⟩
        · have := h W
          rw [if_neg (by omega), if_pos (.inr ⟨hb, hn⟩)] at this
          exact this
        · rw [← xor_not]
          have hm' : ¬ (openM a).toNat = 0 := fun h' => hm ((M_zero a).1 h')
          simp only [Ieee.Datum.quotient, if_true, if_neg hm']
          rfl
    · rw [if_pos ha] at hda
      rw [if_neg (by omega)] at hdb
      subst hda hdb
      refine ⟨_, fun W => ?_, .inr ⟨!s == t, 0, ?_, by omega, signed_word _ 0 (by decide)⟩⟩
      · have := h W
        rw [if_neg (by omega), if_neg (by omega)] at this
        exact this
      · rw [← xor_not]
        exact congrArg some (write_rnd _ 0 0)
    · rw [if_neg (by omega)] at hda
      rw [if_pos hb] at hdb
      subst hda hdb
      refine ⟨_, fun W => ?_, .inr ⟨!s == t, 9218868437227405312, ?_, Nat.le_refl _, (inf_word _).symm⟩⟩
      · have := h W
        rw [if_neg (by omega), if_pos (.inl ha)] at this
        exact this
      · rw [← xor_not]
        rfl
    · rw [if_neg (by omega)] at hda
      rw [if_neg (by omega)] at hdb
      subst hda hdb
      refine ⟨_, fun W => ?_, .inl ⟨rfl, rfl⟩⟩
      have := h W
      rw [if_pos (.inl ⟨ha, hb⟩)] at this
      exact this

theorem same14 (a b : Int) (h1 : -9223372036854775808 ≤ a) (h2 : a < 9223372036854775808) (h3 : -9223372036854775808 ≤ b) (h4 : b < 9223372036854775808) : Same 14 a b := by
  by_cases hca : openC a = 2
  · obtain ⟨f, hf⟩ := read_open_nan a h1 h2 hca
    refine same_of (specNanA14 a b hca) (fop14None a b ?_)
    show Option.map _ ((Ieee.double.read _).quotient 54 _) = none
    rw [hf]; rfl
  have ha : openC a = 0 ∨ openC a = 1 := by have := class_three a; omega
  by_cases hcb : openC b = 2
  · obtain ⟨f, hf⟩ := read_open_nan b h3 h4 hcb
    refine same_of (specNanB14 a b (not_two ha) hcb) (fop14None a b ?_)
    show Option.map _ ((Ieee.double.read _).quotient 54 (Ieee.double.read _)) = none
    rw [hf, (nan_right _ _ _ 54).2.2]; rfl
  have hb : openC b = 0 ∨ openC b = 1 := by have := class_three b; omega
  obtain ⟨r, hs, ⟨hn, rfl⟩ | ⟨s, q, hq, hl, rfl⟩⟩ := div_spec a b (decide (a < 0)) (decide (b < 0)) ha hb _ _ rfl rfl
  · refine same_of (spec14 a b _ (not_two ha) (not_two hb) hs) (fop14None a b ?_)
    show Option.map _ ((Ieee.double.read _).quotient 54 (Ieee.double.read _)) = none
    rw [datum_of a h1 h2 ha, datum_of b h3 h4 hb, hn]; rfl
  · refine same_of (spec14 a b _ (not_two ha) (not_two hb) hs) (fop14Some a b _ ?_ (order_word s q hl))
    show Option.map _ ((Ieee.double.read _).quotient 54 (Ieee.double.read _)) = _
    rw [datum_of a h1 h2 ha, datum_of b h3 h4 hb]; exact hq

theorem same_all (op a b : Int) (h1 : -9223372036854775808 ≤ a) (h2 : a < 9223372036854775808) (h3 : -9223372036854775808 ≤ b) (h4 : b < 9223372036854775808) : Same op a b := by
  by_cases h : op < 11 ∨ 16 < op ∨ op = 15
  · exact sameOut op a b h
  · rcases (show op = 11 ∨ op = 12 ∨ op = 13 ∨ op = 14 ∨ op = 16 by omega) with rfl | rfl | rfl | rfl | rfl
    · exact same11 a b h1 h2 h3 h4
    · exact same12 a b h1 h2 h3 h4
    · exact same13 a b h1 h2 h3 h4
    · exact same14 a b h1 h2 h3 h4
    · exact same16 a b h1 h2
end Go.Proofs.Ytjkmoggajpkdeaa
