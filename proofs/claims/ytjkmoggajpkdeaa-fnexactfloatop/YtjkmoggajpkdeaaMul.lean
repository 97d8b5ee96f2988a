/- spec.l1FloatMul: what it answers. -/
import Derived.Test.YtjkmoggajpkdeaaAdd
namespace Go.Proofs.Ytjkmoggajpkdeaa
set_option linter.unusedVariables false
open Go.ChangeShapes Go.WideShapes Go.ChangeAt Go.RowKit

theorem mul_bit (m n i : Nat) : m * (n % 2 ^ (i + 1)) = m * (n % 2 ^ i) + (n / 2 ^ i % 2) * (m * 2 ^ i) := by
  have h : n % 2 ^ (i + 1) = n % 2 ^ i + 2 ^ i * (n / 2 ^ i % 2) := by rw [Nat.pow_succ, Nat.mod_mul]
  rw [h, Nat.mul_add]
  congr 1
  rw [Nat.mul_comm (n / 2 ^ i % 2), Nat.mul_assoc]
theorem mod_all (n k : Nat) (h : n / 2 ^ k = 0) : n % 2 ^ k = n := by
  have := Nat.div_add_mod n (2 ^ k)
  rw [h] at this
  omega
/-- A row's cells, and its slice. -/
theorem RowB.open {w : World} {v : Value} {k M : Nat} (h : RowB w v k M) : ∃ a c, v = .slice a k c ∧ ∀ j, j < k → ∃ g, a = some ⟨g, 0, none⟩ ∧ g < w.heap.size ∧ w.cell? ⟨g, j, none⟩ = some (.int .i64 ((M / 2 ^ j % 2 : Nat) : Int)) := by
  obtain ⟨⟨_, _, ⟨rfl, rfl⟩ | ⟨g, cap, rfl, hc⟩⟩, hg⟩ := h
  · exact ⟨none, 0, rfl, fun j hj => by omega⟩
  · exact ⟨some ⟨g, 0, none⟩, cap, rfl, fun j hj => ⟨g, rfl, hg g cap rfl, hc j hj⟩⟩
theorem rowB_empty {w : World} (g c : Nat) (h : g < w.heap.size) : RowB w (.slice (some ⟨g, 0, none⟩) 0 c) 0 0 :=
  ⟨⟨by simp, by omega, .inr ⟨g, c, rfl, fun j hj => by omega⟩⟩, fun g' c' hv => by injection hv with h1; injection h1 with h1; injection h1 with h1; omega⟩

set_option maxHeartbeats 2000000 in
theorem mulFin_calls (s t : Bool) (m n : Nat) (e f : Int) (hm : m < 9223372036854775808) (hn : n < 9223372036854775808) (he : -1074 ≤ e) (he2 : e ≤ 1000) (hf : -1074 ≤ f) (hf2 : f ≤ 1000) (w : World) :
    Calls Try.prog 8 #[.agg (real s m e 0), .agg (real t n f 0)] w fun r w' => r = .returned (.int .i64 (signedOf (!s == t) ((rndOf (m * n) (e + f) false : Nat) : Int))) ∧ Below w.heap.size w w' := by
  unfold real
  go_enter Try.func8, Try.ntmps8
  go_wp2_with (go_at_call 15; fail)
  obtain ⟨W0, hW0⟩ : ∃ W : World, W = ((w.alloc (.cells #[.bool s, .int .i64 m, .int .i64 e, .int .i64 0] 26)).alloc (.cells #[.bool t, .int .i64 n, .int .i64 f, .int .i64 0] 26)) := ⟨_, rfl⟩
  rw [← hW0]
  have hbW0 : Below w.heap.size w W0 := by rw [hW0]; exact ((Below.refl _ _).alloc (Nat.le_refl _) _).alloc (by simp) _
  have hsz : W0.heap.size = w.heap.size + 1 + 1 := by rw [hW0]; simp
  have hS0 := startAB hW0
  clear hW0
  obtain ⟨W, hW⟩ : ∃ W : World, W = W0.alloc (.cells #[] 2) := ⟨_, rfl⟩
  rw [← hW]
  have hb01 : Below W0.heap.size W0 W := by rw [hW]; exact (Below.refl _ _).alloc (Nat.le_refl _) _
  have hz0 : RowB W (.slice (some ⟨w.heap.size + 1 + 1, 0, none⟩) 0 0) 0 0 := rowB_empty _ 0 (by rw [hW]; simp; omega)
  have hbW : Below w.heap.size w W := hbW0.trans (hb01.mono hbW0.size)
  have hS := keepAB hS0 hb01
  clear hW hS0 hb01 hbW0 hsz
  refine (bits_calls m hm _).mono ?_
  rintro e1 w1 ⟨v1, k1, hk1, hz1, rfl, ho1, hb1⟩
  have hx1 := rowB_own hz1 (by omega) ho1
  have hz01 := hz0.kept hb1
  have hS1 := keepAB hS hb1
  have hB1 := hbW.trans (hb1.mono hbW.size)
  obtain ⟨hT1, hT2, hT3, hT4, hT5, hT6⟩ := hS1
  have hTH : Hid (RowB w1 v1 k1 m ∧ RowB w1 (.slice (some ⟨w.heap.size + 1 + 1, 0, none⟩) 0 0) 0 0 ∧ Below w.heap.size w w1) := ⟨hx1, hz01, hB1⟩
  clear hS hbW hz0 hb1 ho1 hz1 hx1 hz01 hB1
  go_wp2_with (go_at_call 15; fail)
  refine (bits_calls n hn _).mono ?_
  rintro e2 w2 ⟨v2, k2, hk2, hz2, rfl, ho2, hb2⟩
  obtain ⟨hx1, hz01, hB1⟩ := hTH.out
  have hy2 := rowB_own hz2 (by omega) ho2
  have hx2 := hx1.kept hb2
  have hz02 := hz01.kept hb2
  have hS2 := keepAB ⟨hT1, hT2, hT3, hT4, hT5, hT6⟩ hb2
  have hB2 := hB1.trans (hb2.mono hB1.size)
  clear hT1 hT2 hT3 hT4 hT5 hT6 hTH hx1 hz01 hB1 ho2 hb2
  have hSH : Hid (w2.cell? ⟨w.heap.size, 0, none⟩ = some (.bool s) ∧ w2.cell? ⟨w.heap.size, 1, none⟩ = some (.int .i64 m) ∧ w2.cell? ⟨w.heap.size, 2, none⟩ = some (.int .i64 e) ∧ w2.cell? ⟨w.heap.size + 1, 0, none⟩ = some (.bool t) ∧ w2.cell? ⟨w.heap.size + 1, 1, none⟩ = some (.int .i64 n) ∧ w2.cell? ⟨w.heap.size + 1, 2, none⟩ = some (.int .i64 f)) := hS2
  have hxH : Hid (RowB w2 v1 k1 m) := hx2
  have hzH : Hid (RowB w2 (.slice (some ⟨w.heap.size + 1 + 1, 0, none⟩) 0 0) 0 0) := hz02
  have hBH : Hid (Below w.heap.size w w2) := hB2
  obtain ⟨a2, c2, rfl, hcy⟩ := hy2.open
  have hcH : Hid (∀ j, j < k2 → ∃ g, a2 = some ⟨g, 0, none⟩ ∧ g < w2.heap.size ∧ w2.cell? ⟨g, j, none⟩ = some (.int .i64 ((n / 2 ^ j % 2 : Nat) : Int))) := hcy
  have hz2H : Hid (n / 2 ^ k2 = 0) := hz2
  clear hS2 hx2 hz02 hB2 hcy hy2 hz2
  go_wp2
  go_loopw [6, 9] (fun z iv wr => ∃ (i kz : Nat), iv = .int .i64 (i : Int) ∧ i ≤ k2 ∧ kz ≤ i + k1 + 1 ∧ Hid (RowB wr z kz (m * (n % 2 ^ i))) ∧ Hid (Below w2.heap.size w2 wr)) (fun _ iv _ => k2 - (intOf iv).toNat)
  case atStart => exact ⟨0, 0, rfl, by omega, by omega, by show RowB _ _ _ _; simpa [Nat.mod_one] using hzH.out, Below.refl _ _⟩
  case round =>
    obtain ⟨i, kz, rfl, hi, hkz, hzr, hbr⟩ := hrel
    by_cases hin : i < k2
    · have hin1 : (i : Int) < k2 := by omega
      have hin0 : (0 : Int) ≤ i := by omega
      obtain ⟨g, rfl, hg, hc⟩ := hcH.out i hin
      have hcr := keep1 hc hbr.out
      have hst : Hid (m * (n % 2 ^ (i + 1)) = m * (n % 2 ^ i) + (n / 2 ^ i % 2) * (m * 2 ^ i)) := mul_bit m n i
      clear hc
      rcases Nat.mod_two_eq_zero_or_one (n / 2 ^ i) with h0 | h1
      · have hst2 : Hid (m * (n % 2 ^ (i + 1)) = m * (n % 2 ^ i)) := by show _ = _; rw [hst.out, h0]; simp
        rw [h0] at hcr
        clear h0 hst
        go_wp2
        go_roundw
        case rel => exact ⟨i + 1, kz, by simp, by omega, by omega, by show RowB _ _ _ _; rw [hst2.out]; exact hzr.out, hbr⟩
        case measure => first | (simp [intOf]; done) | (simp [intOf]; omega)
      · have hst2 : Hid (m * (n % 2 ^ (i + 1)) = m * (n % 2 ^ i) + m * 2 ^ i) := by show _ = _; rw [hst.out, h1]; simp
        rw [h1] at hcr
        clear h1 hst
        have hxr : Hid (RowB wr v1 k1 m) := hxH.out.kept hbr.out
        go_wp2_with (first | (go_at_call 14; refine (up_callsI v1 k1 m (i : Int) (by omega) (by omega) _ hxr.out).mono ?_; rintro e3 w3 ⟨u, rfl, ho3, hb3⟩) | (go_at_call 17; refine (sumAdd_calls _ u kz (i + k1) (m * (n % 2 ^ i)) (m * 2 ^ i) _ (hzr.out.kept hb3) (rowB_own (up_zero m k1 i hxH.out.1.1) (by omega) ho3)).mono ?_; rintro e4 w4 ⟨z', rfl, hz4, ho4, hb4⟩))
        go_roundw
        case rel => exact ⟨i + 1, max kz (i + k1) + 1, by simp, by omega, by omega, by show RowB _ _ _ _; rw [hst2.out]; exact rowB_own hz4 (by omega) ho4, (hbr.out.trans (hb3.mono hbr.out.size)).trans (hb4.mono (Nat.le_trans hbr.out.size hb3.size))⟩
        case measure => first | (simp [intOf]; done) | (simp [intOf]; omega)
    · have hin1 : ¬ (i : Int) < k2 := by omega
      obtain rfl : i = k2 := by omega
      have hfin : RowB wr u6 kz (m * n) := by have := hzr.out; rwa [mod_all n i hz2H.out] at this
      have hfH : Hid (RowB wr u6 kz (m * n)) := hfin
      obtain ⟨hT1, hT2, hT3, hT4, hT5, hT6⟩ := keepAB hSH.out hbr.out
      clear hfin hzr
      go_wp2_with (go_at_call 16; refine (round_row _ _ u6 _ (m * n) (e + f) _ (by omega) (by omega) hfH.out).mono ?_; rintro e4 w6 ⟨rfl, hw6⟩; subst w6)
      go_ret
      exact ⟨rfl, hBH.out.trans (hbr.out.mono hBH.out.size)⟩

theorem mulInf_calls (s t : Bool) (m n e f c d : Int) (hc : c = 0 ∨ c = 1) (hd : d = 0 ∨ d = 1) (hcd : c = 1 ∨ d = 1) (w : World) :
    Calls Try.prog 8 #[.agg (real s m e c), .agg (real t n f d)] w fun r w' => r = .returned (.int .i64 (if (c = 0 ∧ m = 0) ∨ (d = 0 ∧ n = 0) then 9221120237041090560 else signedOf (!s == t) 9218868437227405312)) ∧ Below w.heap.size w w' := by
  unfold real
  have hb : ∀ a b, Below w.heap.size w ((w.alloc a).alloc b) := fun a b => ((Below.refl _ _).alloc (Nat.le_refl _) _).alloc (by simp) _
  have hbH : Hid (∀ a b, Below w.heap.size w ((w.alloc a).alloc b)) := hb
  clear hb
  by_cases hm : m = 0
  all_goals by_cases hn : n = 0
  all_goals rcases hc with rfl | rfl
  all_goals rcases hd with rfl | rfl
  all_goals first | (exfalso; simp at hcd; done) | skip
  all_goals
    have hm' : (m == 0) = decide (m = 0) := by simp [hm]
    have hn' : (n == 0) = decide (n = 0) := by simp [hn]
    simp only [hm, hn, decide_true, decide_false] at hm' hn'
    go_enter Try.func8, Try.ntmps8
    go_wp2_with (go_at_call 13; refine (signed_calls _ _ _).mono ?_; rintro e' w' ⟨rfl, he'⟩; subst w')
    go_ret
    exact ⟨by first | (simp; done) | (simp [hm]; done) | (simp [hn]; done) | (simp [hm, hn]; done), hbH.out _ _⟩
end Go.Proofs.Ytjkmoggajpkdeaa
