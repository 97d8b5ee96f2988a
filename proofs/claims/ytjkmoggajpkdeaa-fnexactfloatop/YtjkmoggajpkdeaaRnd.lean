/- spec.l1Round on a row of bits, whatever the number. -/
import Derived.Test.YtjkmoggajpkdeaaUp
import Derived.Test.YtjkmoggajpkdeaaWalk3
namespace Go.Proofs.Ytjkmoggajpkdeaa
set_option linter.unusedVariables false
open Go.ChangeShapes Go.WideShapes Go.ChangeAt Go.RowKit

/-- Noughts alone: the rounding of nothing. -/
theorem roundNought (s more : Bool) (g k cap : Nat) (hk : k ≤ 20000) (e : Int) (w : World) (hc : BitsAt w g k 0) :
    Calls Try.prog 16 #[.bool s, .slice (some ⟨g, 0, none⟩) k cap, .int .i64 e, .bool more] w fun e' w' => e' = .returned (.int .i64 (signedOf s 0)) ∧ w' = w := by
  have hcH : Hid (∀ j, j < k → w.cell? ⟨g, j, none⟩ = some (.int .i64 0)) := fun j hj => by rw [hc j hj]; simp
  clear hc
  go_enter Try.func16, Try.ntmps16
  go_wp2
  go_loop [9] (fun n => ∃ t : Nat, t ≤ k ∧ n = .int .i64 t) (fun n => (intOf n).toNat)
  case atStart => exact ⟨k, Nat.le_refl _, rfl⟩
  case round =>
    obtain ⟨t, ht2, rfl⟩ := hrel
    by_cases h0 : t = 0
    · subst h0
      go_wp2_with (go_at_call 13; refine (signed_calls _ _ _).mono ?_; rintro e' w' ⟨rfl, he'⟩; subst he')
      go_ret
      exact ⟨rfl, rfl⟩
    · obtain ⟨t, rfl⟩ : ∃ t', t = t' + 1 := ⟨t - 1, by omega⟩
      have hcell := hcH.out t (by omega)
      go_wp2
      go_round
      case rel => exact ⟨t, by omega, by go_num⟩
      case measure => simp [intOf]

/-- The rung that a number times 2 to the e is rounded to. -/
def rndOf (M : Nat) (e : Int) (more : Bool) : Nat := if M = 0 then 0 else rungOf (qOf M e more) (unitOf M e)

theorem round_row (s more : Bool) (v : Value) (k M : Nat) (e : Int) (w : World) (he1 : -20000 ≤ e) (he2 : e ≤ 20000) (h : RowB w v k M) :
    Calls Try.prog 16 #[.bool s, v, .int .i64 e, .bool more] w fun e' w' => e' = .returned (.int .i64 (signedOf s ((rndOf M e more : Nat) : Int))) ∧ w' = w := by
  obtain ⟨⟨hz, hk, ⟨rfl, rfl⟩ | ⟨g, cap, rfl, hc⟩⟩, _⟩ := h
  · have : M = 0 := by simpa using hz
    subst this
    exact roundZero s more none 0 e w
  · by_cases h0 : M = 0
    · subst h0
      exact roundNought s more g k cap hk e w hc
    · rw [rndOf, if_neg h0]
      exact round_calls s more M g k cap e w h0 hz hk he1 he2 hc

theorem up_callsI (v : Value) (k M : Nat) (z : Int) (h0 : 0 ≤ z) (h1 : z ≤ 10000) (w : World) (hv : RowB w v k M) :
    Calls Try.prog 14 #[v, .int .i64 z] w fun e w' => ∃ r, e = .returned r ∧ w'.ownsRow w.heap.size 2 1 r (z.toNat + k) (bitRow (M * 2 ^ z.toNat) (z.toNat + k)) ∧ Below w.heap.size w w' := by
  obtain ⟨n, rfl⟩ : ∃ n : Nat, z = n := ⟨z.toNat, by omega⟩
  exact up_calls v k M n (by omega) w hv
theorem up_callsW (v : Value) (k M : Nat) (z : Int) (h0 : 0 ≤ z) (h1 : z ≤ 10000) (w : World) (hv : RowB w v k M) :
    Calls Try.prog 14 #[v, .int .i64 (IntKind.i64.wrap z)] w fun e w' => ∃ r, e = .returned r ∧ w'.ownsRow w.heap.size 2 1 r (z.toNat + k) (bitRow (M * 2 ^ z.toNat) (z.toNat + k)) ∧ Below w.heap.size w w' := by
  rw [wrap_i64, wrap64_id z (by omega) (by omega)]
  exact up_callsI v k M z h0 h1 w hv
end Go.Proofs.Ytjkmoggajpkdeaa
