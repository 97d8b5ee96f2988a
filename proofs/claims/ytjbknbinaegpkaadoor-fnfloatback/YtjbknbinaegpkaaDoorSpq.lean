/- spec.ReadFloat: what it answers at any text. -/
import Derived.Test.YtjbknbinaegpkaaDoorRdr
import Derived.Test.YtjbknbinaegpkaaDoorGt
namespace Go.Proofs.YtjbknbinaegpkaaDoor
set_option linter.unusedVariables false
open Go.ChangeShapes Go.WideShapes Go.ChangeAt Go.RowKit

/-- Noughts alone: the rounding of nothing. -/
theorem roundNought (s more : Bool) (g k cap : Nat) (hk : k ≤ 20000) (e : Int) (w : World) (hc : BitsAt w g k 0) :
    Calls Tryd.prog 28 #[.bool s, .slice (some ⟨g, 0, none⟩) k cap, .int .i64 e, .bool more] w fun e' w' => e' = .returned (.int .i64 (signedOf s 0)) ∧ w' = w := by
  have hcH : Hid (∀ j, j < k → w.cell? ⟨g, j, none⟩ = some (.int .i64 0)) := fun j hj => by rw [hc j hj]; simp
  clear hc
  go_enter Tryd.func28, Tryd.ntmps28
  go_wp2
  go_loop [9] (fun n => ∃ t : Nat, t ≤ k ∧ n = .int .i64 t) (fun n => (intOf n).toNat)
  case atStart => exact ⟨k, Nat.le_refl _, rfl⟩
  case round =>
    obtain ⟨t, ht2, rfl⟩ := hrel
    by_cases h0 : t = 0
    · subst h0
      go_wp2_with (go_at_call 25; refine (signed_calls _ _ _).mono ?_; rintro e' w' ⟨rfl, he'⟩; subst he')
      go_ret
      exact ⟨rfl, rfl⟩
    · obtain ⟨t, rfl⟩ : ∃ t', t = t' + 1 := ⟨t - 1, by omega⟩
      have hcell := hcH.out t (by omega)
      go_wp2
      go_round
      case rel => exact ⟨t, by omega, by go_num⟩
      case measure => simp [intOf]

theorem round_own (s : Bool) (v : Value) (k M B : Nat) (e : Int) (w : World) (hk : k ≤ 63) (hM : M / 2 ^ k = 0) (he1 : -20000 ≤ e) (he2 : e ≤ 20000) (h : w.ownsRow B 2 1 v k (bitRow M k)) :
    Calls Tryd.prog 28 #[.bool s, v, .int .i64 e, .bool false] w fun e' w' => e' = .returned (.int .i64 (signedOf s ((rndOf M e : Nat) : Int))) ∧ w' = w := by
  have hcells := fun g hg => h.cells (g := g) hg
  obtain ⟨hl, ⟨rfl, rfl⟩ | ⟨g, cap, cur, rfl, hg, hrest⟩⟩ := h
  · have : M = 0 := by simpa using hM
    subst this
    exact roundZero s false none 0 e w
  · have hc : BitsAt w g k M := fun j hj => by
      have := hcells g rfl j (.int .i64 ((M / 2 ^ j % 2 : Nat) : Int)) (by simp [bitRow, hj])
      have hadd : (⟨g, 0, none⟩ : Addr).add j = ⟨g, j, none⟩ := by unfold Addr.add; split <;> simp_all
      rwa [hadd] at this
    by_cases h0 : M = 0
    · subst h0
      exact roundNought s false g k cap (by omega) e w hc
    · rw [rndOf, if_neg h0]
      exact round_calls s false M g k cap e w h0 hM (by omega) he1 he2 hc

theorem pos_hit : ∀ (l : List UInt8) (k : Nat), (∀ j, j < k → l[j]? ≠ some 112) → l[k]? = some 112 → posP l = k := by
  intro l
  induction l with
  | nil => intro k _ h; simp at h
  | cons c l ih =>
    intro k h1 h2
    cases k with
    | zero => simp at h2; rw [posP, if_pos h2]
    | succ k =>
      have h0 := h1 0 (by omega)
      rw [posP, if_neg (by simpa using h0), ih k (fun j hj => by simpa using h1 (j + 1) (by omega)) (by simpa using h2)]
theorem pos_miss : ∀ (l : List UInt8), (∀ j, j < l.length → l[j]? ≠ some 112) → posP l = l.length := by
  intro l
  induction l with
  | nil => intro _; rfl
  | cons c l ih =>
    intro h1
    have h0 := h1 0 (by simp)
    rw [posP, if_neg (by simpa using h0), ih (fun j hj => by simpa using h1 (j + 1) (by simp; omega)), List.length_cons]
theorem foldR_in (lim : Nat) : ∀ (l : List UInt8) (i : Nat) (n : Int), (-9223372036854775808 ≤ n ∧ n < 9223372036854775808) → -9223372036854775808 ≤ foldR lim i n l ∧ foldR lim i n l < 9223372036854775808 := by
  intro l
  induction l with
  | nil => intro i n h; exact h
  | cons c l ih =>
    intro i n h
    rw [foldR]
    refine ih _ _ ?_
    split
    · exact wrap64_in _
    · exact h
theorem readW_in (lim : Nat) (l : List UInt8) : -9223372036854775808 ≤ readW lim l ∧ readW lim l < 9223372036854775808 := by
  unfold readW
  split
  · exact wrap64_in _
  · exact foldR_in lim l 0 0 (by decide)
theorem text_eq (T : ByteArray) (b : List UInt8) : (T.toList == b) = decide (T.data.toList = b) := by
  rw [ByteArray.toList_eq]
  by_cases h : T.data.toList = b
  · simp [h]
  · simp [h]
theorem show_test (x : Int) (s : ByteArray) : ((mkS (showL x)).toList == s.toList) = decide (showL x = s.data.toList) := by
  rw [text_eq, ByteArray.toList_eq, mkS_list]
theorem ans_some (x : Int) (l : List UInt8) : ansOf (some x) l = if showL x = l then (x, true) else (0, false) := rfl
theorem extract_list (s : ByteArray) (a b : Nat) : (s.extract a b).data.toList = (s.data.toList.drop a).take (b - a) := by
  rw [ByteArray.data_extract, Array.toList_extract, List.extract_eq_take_drop]
end Go.Proofs.YtjbknbinaegpkaaDoor
