/- impl.Convert and spec.Convert answer alike at every pair of kinds and every int64. -/
import Derived.Test.YtgofchcbeiiieaiImpl
namespace Go.Proofs.Ytgofchcbeiiieai
open Go.ChangeShapes Go.WideShapes Go.ChangeAt Go.RowKit

/-- Nothing that was there has changed. -/
def Kept (w w' : World) : Prop := ∀ may : MemPlace → Prop, w.keptBut w' may
theorem Kept.refl (w : World) : Kept w w := fun _ => World.keptBut_refl _ _
theorem kept_grown {w w' : World} (h : Grown w w') : Kept w w' := fun may => h.frame may
theorem kept_below {w w' : World} (h : Below w.heap.size w w') : Kept w w' := fun may => h.frame may

theorem floatOfInt_eq (n : Int) : floatOfInt .f64 n = Ieee.double.nearest (decide (n < 0)) n.natAbs 0 := rfl

/-- The float of a whole number: its word. -/
theorem floatOfInt_word (n : Int) : ∃ r, r ≤ 9218868437227405312 ∧ floatOfInt .f64 n = Ieee.double.word (decide (n < 0)) r ∧ (n ≠ 0 → r = rungOf (qOf n.natAbs 0 false) (unitOf n.natAbs 0)) := by
  rw [floatOfInt_eq]
  by_cases h : n = 0
  · subst h; exact ⟨0, by decide, by kernel_rfl, fun h => absurd rfl h⟩
  · have h0 : n.natAbs ≠ 0 := by omega
    have hb := q_bounds n.natAbs 0 false h0
    have := rung_min _ _ hb.1 hb.2 (unit_ge n.natAbs 0)
    exact ⟨_, by omega, nearest_round _ _ _ h0, fun _ => rfl⟩
theorem order_float (n : Int) : FloatKind.f64.format.order (floatOfInt .f64 n) (floatOfInt .f64 n) = some .eq := by
  obtain ⟨r, hr, e, -⟩ := floatOfInt_word n
  rw [e]
  have := order_words (decide (n < 0)) (decide (n < 0)) r r (by omega) (by omega)
  rw [if_neg (by omega), compare_eq rfl] at this
  exact this

/-- What both answer of a whole number as a float. -/
def floatVal (n : Int) : Int := wrap64 (floatOfInt .f64 n)

theorem row_at {w : World} {base k M : Nat} {v : Value} (h0 : M ≠ 0) (hz : M / 2 ^ k = 0) (h : w.ownsRow base 2 1 v k (bitRow M k)) : ∃ g cap, v = .slice (some ⟨g, 0, none⟩) k cap ∧ BitsAt w g k M := by
  obtain ⟨hl, ⟨_, rfl⟩ | ⟨g, cap, cur, rfl, hg, hb, hn, hm, hs, ht⟩⟩ := h
  · simp at hz; exact absurd hz h0
  · refine ⟨g, cap, rfl, fun j hj => ?_⟩
    rw [cell_of_row w g j cur 2 (0, 0) hb]
    have : (cur.toList.take (k * 1))[j]? = some (.int .i64 ((M / 2 ^ j % 2 : Nat) : Int)) := by
      rw [ht]; simp [bitRow, hj]
    rw [List.getElem?_take, if_pos (by omega)] at this
    simpa using this

theorem bits_zero (w : World) : Calls Try.prog 15 #[.int .i64 0] w fun e w' => e = .returned (.slice (some ⟨w.heap.size, 0, none⟩) 0 0) ∧ w' = w.alloc (.cells #[] 2) := by
  go_enter Try.func15, Try.ntmps15
  go_wp2
  go_loop [0, 3] (fun m v => m = .int .i64 0 ∧ v = .slice (some ⟨w.heap.size, 0, none⟩) 0 0) (fun _ _ => 0)
  case atStart => exact ⟨rfl, rfl⟩
  case round =>
    obtain ⟨rfl, rfl⟩ := hrel
    go_wp2
    go_ret
    exact ⟨rfl, rfl⟩

/-- spec's way from a whole number to a float, where it is neither 0 nor the least. -/
theorem round_of_bits (s : Bool) (M : Nat) (h0 : M ≠ 0) (hM : M < 9223372036854775808) (w : World) :
    Calls Try.prog 15 #[.int .i64 (M : Int)] w fun e w' => ∃ v, e = .returned v ∧ Kept w w' ∧ ∀ w'', w'' = w' → Calls Try.prog 14 #[.bool s, v, .int .i64 0, .bool false] w'' fun e2 w2 => e2 = .returned (.int .i64 (signedOf s ((rungOf (qOf M 0 false) (unitOf M 0) : Nat) : Int))) ∧ w2 = w'' := by
  refine (bits_calls M hM w).mono ?_
  rintro e w' ⟨v, k, hk, hz, rfl, hown, hbel⟩
  obtain ⟨g, cap, rfl, hat⟩ := row_at h0 hz hown
  refine ⟨_, rfl, kept_below hbel, ?_⟩
  rintro w'' rfl
  exact round_calls s false M g k cap 0 w'' h0 hz (by omega) (by decide) (by decide) hat
theorem float_agree (n : Int) (h0 : n ≠ 0) : signedOf (decide (n < 0)) ((rungOf (qOf n.natAbs 0 false) (unitOf n.natAbs 0) : Nat) : Int) = floatVal n := by
  obtain ⟨r, hr, e, hq⟩ := floatOfInt_word n
  rw [← hq h0, signed_word _ _ (by omega)]
  unfold floatVal
  rw [e]
end Go.Proofs.Ytgofchcbeiiieai
