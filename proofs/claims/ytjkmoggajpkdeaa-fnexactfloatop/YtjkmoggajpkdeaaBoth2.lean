/- The specification and the program give the same of two floats: sums and differences, products, quotients. -/
import Derived.Test.YtjkmoggajpkdeaaBoth
namespace Go.Proofs.Ytjkmoggajpkdeaa
set_option linter.unusedVariables false
open Go.ChangeShapes Go.WideShapes Go.ChangeAt Go.RowKit

/-- What spec.l1FloatAdd gives of two floats that are no NaN, the second's sign as said; and IEEE's sum. -/
theorem add_spec (a b : Int) (t : Bool) (ha : openC a = 0 ∨ openC a = 1) (hb : openC b = 0 ∨ openC b = 1) (da db : Ieee.Datum)
    (hda : da = if openC a = 0 then .number (decide (a < 0)) (openM a).toNat (openE a) else .infinity (decide (a < 0))) (hdb : db = if openC b = 0 then .number t (openM b).toNat (openE b) else .infinity t) :
    ∃ r : Int, (∀ W, Calls Try.prog 7 #[.agg #[.bool (decide (a < 0)), .int .i64 (openM a), .int .i64 (openE a), .int .i64 (openC a)], .agg #[.bool t, .int .i64 (openM b), .int .i64 (openE b), .int .i64 (openC b)]] W fun e W' => e = .returned (.int .i64 r) ∧ Below W.heap.size W W') ∧
      ((da.sum db = none ∧ r = 9221120237041090560) ∨ ∃ s q, (da.sum db).map Ieee.double.write = some (Ieee.double.word s q) ∧ q ≤ 9218868437227405312 ∧ r = wrap64 ((Ieee.double.word s q : Nat) : Int)) := by
  generalize decide (a < 0) = s at *
  rcases ha with ha | ha <;> rcases hb with hb | hb
  · rw [if_pos ha] at hda
    rw [if_pos hb] at hdb
    subst hda hdb
    have hE := E_bounds a ha
    have hF := E_bounds b hb
    obtain ⟨X, hX⟩ : ∃ X, (openM a).toNat * 2 ^ (openE a - min (openE a) (openE b)).toNat = X := ⟨_, rfl⟩
    obtain ⟨Y, hY⟩ : ∃ Y, (openM b).toNat * 2 ^ (openE b - min (openE a) (openE b)).toNat = Y := ⟨_, rfl⟩
    refine ⟨signedOf (if s = t then s else if X < Y then t else s && decide (0 < X - Y)) ((rndOf (if s = t then X + Y else if X < Y then Y - X else X - Y) (min (openE a) (openE b)) false : Nat) : Int), fun W => ?_, .inr ⟨if s = t then s else if X < Y then t else s && decide (0 < X - Y), rndOf (if s = t then X + Y else if X < Y then Y - X else X - Y) (min (openE a) (openE b)) false, ?_, rnd_le _ _ _, (rnd_word _ _ _).symm⟩⟩
    · have h := addFin_calls s t (openM a).toNat (openM b).toNat (openE a) (openE b) (by have := M_lt a; omega) (by have := M_lt b; omega) hE.1 hE.2 hF.1 hF.2 W
      rw [addFin_eq, hX, hY] at h
      unfold real at h
      rw [M_nat, M_nat] at h
      rw [ha, hb]
      exact h
    · rw [sum_numbers s t _ _ _ _ X Y hX hY]
      exact congrArg some (write_rnd _ _ _)
  · rw [if_pos ha] at hda
    rw [if_neg (by omega)] at hdb
    subst hda hdb
    refine ⟨_, fun W => ?_, .inr ⟨t, 9218868437227405312, rfl, Nat.le_refl _, (inf_word _).symm⟩⟩
    rw [ha, hb]
    exact addInf_right s t _ _ _ _ W
  · rw [if_neg (by omega)] at hda
    rw [if_pos hb] at hdb
    subst hda hdb
    refine ⟨_, fun W => ?_, .inr ⟨s, 9218868437227405312, rfl, Nat.le_refl _, (inf_word _).symm⟩⟩
    rw [ha, hb]
    exact addInf_left s t _ _ _ _ W
  · rw [if_neg (by omega)] at hda
    rw [if_neg (by omega)] at hdb
    subst hda hdb
    by_cases hst : s = t
    · subst hst
      refine ⟨_, fun W => ?_, .inr ⟨s, 9218868437227405312, ?_, Nat.le_refl _, (inf_word _).symm⟩⟩
      · rw [ha, hb]
        have h := addInf_both s s (openM a) (openM b) (openE a) (openE b) W
        rw [if_pos rfl] at h
        exact h
      · show Option.map _ (if s = s then _ else _) = _
        rw [if_pos rfl]; rfl
    · refine ⟨_, fun W => ?_, .inl ⟨?_, rfl⟩⟩
      · rw [ha, hb]
        have h := addInf_both s t (openM a) (openM b) (openE a) (openE b) W
        rw [if_neg hst] at h
        exact h
      · show (if s = t then _ else _) = _
        rw [if_neg hst]
theorem datum_of (a : Int) (h1 : -9223372036854775808 ≤ a) (h2 : a < 9223372036854775808) (ha : openC a = 0 ∨ openC a = 1) :
    Ieee.double.read (IntKind.u64.wrap a).toNat = if openC a = 0 then .number (decide (a < 0)) (openM a).toNat (openE a) else .infinity (decide (a < 0)) := by
  rcases ha with h | h
  · rw [if_pos h]; exact read_open a h1 h2 h
  · rw [if_neg (by omega)]; exact read_open_inf a h1 h2 h
theorem opposite_of (b : Int) (t : Bool) : (if openC b = 0 then Ieee.Datum.number t (openM b).toNat (openE b) else .infinity t).opposite = if openC b = 0 then .number (!t) (openM b).toNat (openE b) else .infinity (!t) := by
  split <;> rfl
theorem nan_left (d : Ieee.Datum) (s : Bool) (f k : Nat) : (Ieee.Datum.nan s f).sum d = none ∧ (Ieee.Datum.nan s f).product d = none ∧ (Ieee.Datum.nan s f).quotient k d = none := ⟨rfl, rfl, rfl⟩
theorem nan_right (d : Ieee.Datum) (s : Bool) (f k : Nat) : d.sum (.nan s f) = none ∧ d.product (.nan s f) = none ∧ d.quotient k (.nan s f) = none := by
  cases d <;> exact ⟨rfl, rfl, rfl⟩

theorem same11 (a b : Int) (h1 : -9223372036854775808 ≤ a) (h2 : a < 9223372036854775808) (h3 : -9223372036854775808 ≤ b) (h4 : b < 9223372036854775808) : Same 11 a b := by
  by_cases hca : openC a = 2
  · obtain ⟨f, hf⟩ := read_open_nan a h1 h2 hca
    refine same_of (specNanA11 a b hca) (fop11None a b ?_)
    show Option.map _ ((Ieee.double.read _).sum _) = none
    rw [hf]; rfl
  have ha : openC a = 0 ∨ openC a = 1 := by have := class_three a; omega
  by_cases hcb : openC b = 2
  · obtain ⟨f, hf⟩ := read_open_nan b h3 h4 hcb
    refine same_of (specNanB11 a b (not_two ha) hcb) (fop11None a b ?_)
    show Option.map _ ((Ieee.double.read _).sum (Ieee.double.read _)) = none
    rw [hf, (nan_right _ _ _ 0).1]; rfl
  have hb : openC b = 0 ∨ openC b = 1 := by have := class_three b; omega
  obtain ⟨r, hs, ⟨hn, rfl⟩ | ⟨s, q, hq, hl, rfl⟩⟩ := add_spec a b (decide (b < 0)) ha hb _ _ rfl rfl
  · refine same_of (spec11 a b _ (not_two ha) (not_two hb) hs) (fop11None a b ?_)
    show Option.map _ ((Ieee.double.read _).sum (Ieee.double.read _)) = none
    rw [datum_of a h1 h2 ha, datum_of b h3 h4 hb, hn]; rfl
  · refine same_of (spec11 a b _ (not_two ha) (not_two hb) hs) (fop11Some a b _ ?_ (order_word s q hl))
    show Option.map _ ((Ieee.double.read _).sum (Ieee.double.read _)) = _
    rw [datum_of a h1 h2 ha, datum_of b h3 h4 hb]; exact hq
theorem same12 (a b : Int) (h1 : -9223372036854775808 ≤ a) (h2 : a < 9223372036854775808) (h3 : -9223372036854775808 ≤ b) (h4 : b < 9223372036854775808) : Same 12 a b := by
  by_cases hca : openC a = 2
  · obtain ⟨f, hf⟩ := read_open_nan a h1 h2 hca
    refine same_of (specNanA12 a b hca) (fop12None a b ?_)
    show Option.map _ ((Ieee.double.read _).sum _) = none
    rw [hf]; rfl
  have ha : openC a = 0 ∨ openC a = 1 := by have := class_three a; omega
  by_cases hcb : openC b = 2
  · obtain ⟨f, hf⟩ := read_open_nan b h3 h4 hcb
    refine same_of (specNanB12 a b (not_two ha) hcb) (fop12None a b ?_)
    show Option.map _ ((Ieee.double.read _).sum (Ieee.double.read _).opposite) = none
    rw [hf]
    show Option.map _ ((Ieee.double.read _).sum (.nan _ _)) = none
    rw [(nan_right _ _ _ 0).1]; rfl
  have hb : openC b = 0 ∨ openC b = 1 := by have := class_three b; omega
  obtain ⟨r, hs, ⟨hn, rfl⟩ | ⟨s, q, hq, hl, rfl⟩⟩ := add_spec a b (!decide (b < 0)) ha hb _ _ rfl rfl
  · refine same_of (spec12 a b _ (not_two ha) (not_two hb) hs) (fop12None a b ?_)
    show Option.map _ ((Ieee.double.read _).sum (Ieee.double.read _).opposite) = none
    rw [datum_of a h1 h2 ha, datum_of b h3 h4 hb, opposite_of, hn]; rfl
  · refine same_of (spec12 a b _ (not_two ha) (not_two hb) hs) (fop12Some a b _ ?_ (order_word s q hl))
    show Option.map _ ((Ieee.double.read _).sum (Ieee.double.read _).opposite) = _
    rw [datum_of a h1 h2 ha, datum_of b h3 h4 hb, opposite_of]; exact hq
end Go.Proofs.Ytjkmoggajpkdeaa
