/- The specification and the program give the same of two floats: products. -/
import Derived.Test.YtjkmoggajpkdeaaBoth2
namespace Go.Proofs.Ytjkmoggajpkdeaa
set_option linter.unusedVariables false
open Go.ChangeShapes Go.WideShapes Go.ChangeAt Go.RowKit

theorem xor_not (s t : Bool) : (s ^^ t) = (!s == t) := by cases s <;> cases t <;> rfl
theorem M_zero (a : Int) : (openM a).toNat = 0 ↔ openM a = 0 := by have := M_bounds a; omega

theorem mul_spec (a b : Int) (s t : Bool) (ha : openC a = 0 ∨ openC a = 1) (hb : openC b = 0 ∨ openC b = 1) (da db : Ieee.Datum)
    (hda : da = if openC a = 0 then .number s (openM a).toNat (openE a) else .infinity s) (hdb : db = if openC b = 0 then .number t (openM b).toNat (openE b) else .infinity t) :
    ∃ r : Int, (∀ W, Calls Try.prog 8 #[.agg #[.bool s, .int .i64 (openM a), .int .i64 (openE a), .int .i64 (openC a)], .agg #[.bool t, .int .i64 (openM b), .int .i64 (openE b), .int .i64 (openC b)]] W fun e W' => e = .returned (.int .i64 r) ∧ Below W.heap.size W W') ∧
      ((da.product db = none ∧ r = 9221120237041090560) ∨ ∃ s q, (da.product db).map Ieee.double.write = some (Ieee.double.word s q) ∧ q ≤ 9218868437227405312 ∧ r = wrap64 ((Ieee.double.word s q : Nat) : Int)) := by
  by_cases hfin : openC a = 0 ∧ openC b = 0
  · obtain ⟨ha, hb⟩ := hfin
    rw [if_pos ha] at hda
    rw [if_pos hb] at hdb
    subst hda hdb
    have hE := E_bounds a ha
    have hF := E_bounds b hb
    refine ⟨signedOf (!s == t) ((rndOf ((openM a).toNat * (openM b).toNat) (openE a + openE b) false : Nat) : Int), fun W => ?_, .inr ⟨!s == t, rndOf ((openM a).toNat * (openM b).toNat) (openE a + openE b) false, ?_, rnd_le _ _ _, (rnd_word _ _ _).symm⟩⟩
    · have h := mulFin_calls s t (openM a).toNat (openM b).toNat (openE a) (openE b) (by have := M_lt a; omega) (by have := M_lt b; omega) hE.1 hE.2 hF.1 hF.2 W
      unfold real at h
      rw [M_nat, M_nat] at h
      rw [ha, hb]
      exact h
    · rw [← xor_not]
      exact congrArg some (write_rnd _ _ _)
  · have h := fun W => mulInf_calls s t (openM a) (openM b) (openE a) (openE b) (openC a) (openC b) ha hb (by omega) W
    by_cases hz : (openC a = 0 ∧ openM a = 0) ∨ (openC b = 0 ∧ openM b = 0)
    · simp only [if_pos hz] at h
      refine ⟨_, h, .inl ⟨?_, rfl⟩⟩
      rcases hz with ⟨h0, h1⟩ | ⟨h0, h1⟩
      · rw [if_pos h0, (M_zero a).2 h1] at hda
        rw [if_neg (by omega)] at hdb
        subst hda hdb
        rfl
      · rw [if_pos h0, (M_zero b).2 h1] at hdb
        rw [if_neg (by omega)] at hda
        subst hda hdb
        rfl
    · simp only [if_neg hz] at h
      refine ⟨_, h, .inr ⟨!s == t, 9218868437227405312, ?_, Nat.le_refl _, (inf_word _).symm⟩⟩
      rw [← xor_not]
      rcases ha with ha | ha <;> rcases hb with hb | hb
      · omega
      · rw [if_pos ha] at hda
        rw [if_neg (by omega)] at hdb
        subst hda hdb
        have hm : ¬ (openM a).toNat = 0 := fun h' => hz (.inl ⟨ha, (M_zero a).1 h'⟩)
        show Option.map _ (if (openM a).toNat = 0 then none else some (Ieee.Datum.infinity (t ^^ s))) = _
        rw [if_neg hm, Bool.xor_comm t s]
        rfl
      · rw [if_neg (by omega)] at hda
        rw [if_pos hb] at hdb
        subst hda hdb
        have hm : ¬ (openM b).toNat = 0 := fun h' => hz (.inr ⟨hb, (M_zero b).1 h'⟩)
        show Option.map _ (if (openM b).toNat = 0 then none else some (Ieee.Datum.infinity (s ^^ t))) = _
        rw [if_neg hm]
        rfl
      · rw [if_neg (by omega)] at hda
        rw [if_neg (by omega)] at hdb
        subst hda hdb
        rfl

theorem same13 (a b : Int) (h1 : -9223372036854775808 ≤ a) (h2 : a < 9223372036854775808) (h3 : -9223372036854775808 ≤ b) (h4 : b < 9223372036854775808) : Same 13 a b := by
  by_cases hca : openC a = 2
  · obtain ⟨f, hf⟩ := read_open_nan a h1 h2 hca
    refine same_of (specNanA13 a b hca) (fop13None a b ?_)
    show Option.map _ ((Ieee.double.read _).product _) = none
    rw [hf]; rfl
  have ha : openC a = 0 ∨ openC a = 1 := by have := class_three a; omega
  by_cases hcb : openC b = 2
  · obtain ⟨f, hf⟩ := read_open_nan b h3 h4 hcb
    refine same_of (specNanB13 a b (not_two ha) hcb) (fop13None a b ?_)
    show Option.map _ ((Ieee.double.read _).product (Ieee.double.read _)) = none
    rw [hf, (nan_right _ _ _ 0).2.1]; rfl
  have hb : openC b = 0 ∨ openC b = 1 := by have := class_three b; omega
  obtain ⟨r, hs, ⟨hn, rfl⟩ | ⟨s, q, hq, hl, rfl⟩⟩ := mul_spec a b (decide (a < 0)) (decide (b < 0)) ha hb _ _ rfl rfl
  · refine same_of (spec13 a b _ (not_two ha) (not_two hb) hs) (fop13None a b ?_)
    show Option.map _ ((Ieee.double.read _).product (Ieee.double.read _)) = none
    rw [datum_of a h1 h2 ha, datum_of b h3 h4 hb, hn]; rfl
  · refine same_of (spec13 a b _ (not_two ha) (not_two hb) hs) (fop13Some a b _ ?_ (order_word s q hl))
    show Option.map _ ((Ieee.double.read _).product (Ieee.double.read _)) = _
    rw [datum_of a h1 h2 ha, datum_of b h3 h4 hb]; exact hq
end Go.Proofs.Ytjkmoggajpkdeaa
