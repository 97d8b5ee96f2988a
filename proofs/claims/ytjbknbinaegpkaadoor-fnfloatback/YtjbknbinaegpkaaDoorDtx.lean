/- The drawing of numbers, floats and texts of floats: each hangs on the bytes and the state alone. -/
import Derived.Test.YtjbknbinaegpkaaDoorCux
namespace Go.Proofs.YtjbknbinaegpkaaDoor
set_option linter.unusedVariables false
open Go.ChangeShapes Go.WideShapes Go.ChangeAt Go.RowKit

/-- A cell of a block of eight whole numbers that was laid ahead of a drawing: the same in every world. -/
theorem eightX (a b c d e f g h : Int) (t : TypeId) (r : Int) (h0 : 0 ≤ r) (h8 : r < 8) :
    ∃ v : Int, (v = a ∨ v = b ∨ v = c ∨ v = d ∨ v = e ∨ v = f ∨ v = g ∨ v = h) ∧ ∀ (p : Nat) (W w2 : World), Only p (W.alloc (.cells #[.int .i64 a, .int .i64 b, .int .i64 c, .int .i64 d, .int .i64 e, .int .i64 f, .int .i64 g, .int .i64 h] t)) w2 → p < W.heap.size → w2.cell? ⟨W.heap.size, r.toNat, none⟩ = some (.int .i64 v) := by
  have key : ∀ v : Int, (#[Value.int .i64 a, .int .i64 b, .int .i64 c, .int .i64 d, .int .i64 e, .int .i64 f, .int .i64 g, .int .i64 h] : Array Value)[r.toNat]? = some (.int .i64 v) → ∀ (p : Nat) (W w2 : World), Only p (W.alloc (.cells #[.int .i64 a, .int .i64 b, .int .i64 c, .int .i64 d, .int .i64 e, .int .i64 f, .int .i64 g, .int .i64 h] t)) w2 → p < W.heap.size → w2.cell? ⟨W.heap.size, r.toNat, none⟩ = some (.int .i64 v) := fun v hv p W w2 ho hp => by
    rw [ho.cell (by simp) (by omega), World.cell?_alloc_new]
    exact hv
  have hr : r = 0 ∨ r = 1 ∨ r = 2 ∨ r = 3 ∨ r = 4 ∨ r = 5 ∨ r = 6 ∨ r = 7 := by omega
  rcases hr with rfl | rfl | rfl | rfl | rfl | rfl | rfl | rfl
  · exact ⟨a, by simp, key a rfl⟩
  · exact ⟨b, by simp, key b rfl⟩
  · exact ⟨c, by simp, key c rfl⟩
  · exact ⟨d, by simp, key d rfl⟩
  · exact ⟨e, by simp, key e rfl⟩
  · exact ⟨f, by simp, key f rfl⟩
  · exact ⟨g, by simp, key g rfl⟩
  · exact ⟨h, by simp, key h rfl⟩
theorem Cux.alloc {zs : List Int} {len : Nat} {st : Nat × Int} {C : Option Addr} {cap p : Nat} {w0 w : World} (h : Cux zs len st C cap p w0 w) (o : Obj) : Cux zs len st C cap p w0 (w.alloc o) := h.later ((Below.refl _ _).alloc (Nat.le_refl _) o)

set_option maxRecDepth 1000000 in
set_option maxHeartbeats 8000000 in
theorem long_det (zs : List Int) (len : Nat) (st : Nat × Int) : ∃ x st', I64 x ∧ Det1 43 zs len st st' (.int .i64 x) := by
  obtain ⟨x0, st1, a0, b0, H0⟩ := below_det 6 (by decide) zs len st
  have hcase : x0 = 0 ∨ x0 = 1 ∨ x0 = 2 ∨ x0 = 3 ∨ x0 = 4 ∨ x0 = 5 := by omega
  rcases hcase with rfl | rfl | rfl | rfl | rfl | rfl
  · obtain ⟨r, st2, hr0, hr1, H1⟩ := below_det 8 (by decide) zs len st1
    obtain ⟨v, hv, hcell⟩ := eightX 0 1 (-1) 2147483647 (-2147483648) 9223372036854775807 (-9223372036854775808) 4294967296 2 r hr0 hr1
    refine ⟨v, st2, by unfold I64; omega, fun C cap p w0 w hc => ?_⟩
    have H0H : Hid (Calls Tryd.prog 24 #[.pointer (some ⟨p, 0, none⟩), .int .i64 6] w fun e w' => e = .returned (.int .i64 0) ∧ Cux zs len st1 C cap p w0 w' ∧ Only p w w') := H0 C cap p w0 w hc
    have H1H : Hid (∀ w1, Cux zs len st1 C cap p w0 w1 → Only p w w1 → Calls Tryd.prog 24 #[.pointer (some ⟨p, 0, none⟩), .int .i64 8] (w1.alloc (.cells #[.int .i64 0, .int .i64 1, .int .i64 (-1), .int .i64 2147483647, .int .i64 (-2147483648), .int .i64 9223372036854775807, .int .i64 (-9223372036854775808), .int .i64 4294967296] 2)) fun e w' => e = .returned (.int .i64 r) ∧ Cux zs len st2 C cap p w0 w' ∧ Only p w w' ∧ w'.cell? ⟨w1.heap.size, r.toNat, none⟩ = some (.int .i64 v)) := fun w1 hc ho => (H1 C cap p w0 _ (hc.alloc _)).mono fun e w' ⟨a, b, c⟩ => ⟨a, b, (ho.alloc _).trans c, hcell p _ _ c hc.lt⟩
    clear hc H0 H1 hcell hv
    go_enter Tryd.func43, Tryd.ntmps43
    go_wp2_with (go_at_call 24; fail)
    refine H0H.out.mono ?_
    rintro e v1 ⟨rfl, hc1, ho1⟩
    go_wp2_with (go_at_call 24; fail)
    refine (H1H.out _ hc1 ho1).mono ?_
    rintro e v2 ⟨rfl, hc2, ho2, hcc⟩
    go_wp2
    go_ret
    exact ⟨rfl, hc2, ho2⟩
  · obtain ⟨x1, st2, a1, b1, H1⟩ := below_det 256 (by decide) zs len st1
    refine ⟨(x1 - 100), st2, ?_, fun C cap p w0 w hc => ?_⟩
    · first | (unfold I64; omega) | exact wrap64_in _
    · skip
      have H0H : Hid (Calls Tryd.prog 24 #[.pointer (some ⟨p, 0, none⟩), .int .i64 6] w fun e w' => e = .returned (.int .i64 1) ∧ Cux zs len st1 C cap p w0 w' ∧ Only p w w') := H0 C cap p w0 w hc
      have H1H : Hid (∀ w1, Cux zs len st1 C cap p w0 w1 → Only p w w1 → Calls Tryd.prog 24 #[.pointer (some ⟨p, 0, none⟩), .int .i64 256] w1 fun e w' => e = .returned (.int .i64 x1) ∧ Cux zs len st2 C cap p w0 w' ∧ Only p w w') := fun w1 hc ho => (H1 C cap p w0 w1 hc).mono fun e w' ⟨a, b, c⟩ => ⟨a, b, ho.trans c⟩
      clear hc H0 H1
      go_enter Tryd.func43, Tryd.ntmps43
      go_wp2_with (go_at_call 24; fail)
      refine H0H.out.mono ?_
      rintro e v1 ⟨rfl, hc1, ho1⟩
      go_wp2_with (go_at_call 24; fail)
      refine (H1H.out _ hc1 ho1).mono ?_
      rintro e v2 ⟨rfl, hc2, ho2⟩
      go_wp2
      go_ret
      exact ⟨rfl, hc2, ho2⟩
  · obtain ⟨x1, st2, a1, b1, H1⟩ := below_det 256 (by decide) zs len st1
    refine ⟨(x1 - 100), st2, ?_, fun C cap p w0 w hc => ?_⟩
    · first | (unfold I64; omega) | exact wrap64_in _
    · skip
      have H0H : Hid (Calls Tryd.prog 24 #[.pointer (some ⟨p, 0, none⟩), .int .i64 6] w fun e w' => e = .returned (.int .i64 2) ∧ Cux zs len st1 C cap p w0 w' ∧ Only p w w') := H0 C cap p w0 w hc
      have H1H : Hid (∀ w1, Cux zs len st1 C cap p w0 w1 → Only p w w1 → Calls Tryd.prog 24 #[.pointer (some ⟨p, 0, none⟩), .int .i64 256] w1 fun e w' => e = .returned (.int .i64 x1) ∧ Cux zs len st2 C cap p w0 w' ∧ Only p w w') := fun w1 hc ho => (H1 C cap p w0 w1 hc).mono fun e w' ⟨a, b, c⟩ => ⟨a, b, ho.trans c⟩
      clear hc H0 H1
      go_enter Tryd.func43, Tryd.ntmps43
      go_wp2_with (go_at_call 24; fail)
      refine H0H.out.mono ?_
      rintro e v1 ⟨rfl, hc1, ho1⟩
      go_wp2_with (go_at_call 24; fail)
      refine (H1H.out _ hc1 ho1).mono ?_
      rintro e v2 ⟨rfl, hc2, ho2⟩
      go_wp2
      go_ret
      exact ⟨rfl, hc2, ho2⟩
  · obtain ⟨x1, st2, a1, b1, H1⟩ := below_det 4294967296 (by decide) zs len st1
    refine ⟨x1, st2, ?_, fun C cap p w0 w hc => ?_⟩
    · first | (unfold I64; omega) | exact wrap64_in _
    · skip
      have H0H : Hid (Calls Tryd.prog 24 #[.pointer (some ⟨p, 0, none⟩), .int .i64 6] w fun e w' => e = .returned (.int .i64 3) ∧ Cux zs len st1 C cap p w0 w' ∧ Only p w w') := H0 C cap p w0 w hc
      have H1H : Hid (∀ w1, Cux zs len st1 C cap p w0 w1 → Only p w w1 → Calls Tryd.prog 24 #[.pointer (some ⟨p, 0, none⟩), .int .i64 4294967296] w1 fun e w' => e = .returned (.int .i64 x1) ∧ Cux zs len st2 C cap p w0 w' ∧ Only p w w') := fun w1 hc ho => (H1 C cap p w0 w1 hc).mono fun e w' ⟨a, b, c⟩ => ⟨a, b, ho.trans c⟩
      clear hc H0 H1
      go_enter Tryd.func43, Tryd.ntmps43
      go_wp2_with (go_at_call 24; fail)
      refine H0H.out.mono ?_
      rintro e v1 ⟨rfl, hc1, ho1⟩
      go_wp2_with (go_at_call 24; fail)
      refine (H1H.out _ hc1 ho1).mono ?_
      rintro e v2 ⟨rfl, hc2, ho2⟩
      go_wp2
      go_ret
      exact ⟨rfl, hc2, ho2⟩
  · obtain ⟨x1, st2, a1, b1, H1⟩ := below_det 4294967296 (by decide) zs len st1
    obtain ⟨x2, st3, a2, b2, H2⟩ := below_det 4294967296 (by decide) zs len st2
    refine ⟨(wrap64 (wrap64 (x1 * 4294967296) + x2)), st3, ?_, fun C cap p w0 w hc => ?_⟩
    · first | (unfold I64; omega) | exact wrap64_in _
    · skip
      have H0H : Hid (Calls Tryd.prog 24 #[.pointer (some ⟨p, 0, none⟩), .int .i64 6] w fun e w' => e = .returned (.int .i64 4) ∧ Cux zs len st1 C cap p w0 w' ∧ Only p w w') := H0 C cap p w0 w hc
      have H1H : Hid (∀ w1, Cux zs len st1 C cap p w0 w1 → Only p w w1 → Calls Tryd.prog 24 #[.pointer (some ⟨p, 0, none⟩), .int .i64 4294967296] w1 fun e w' => e = .returned (.int .i64 x1) ∧ Cux zs len st2 C cap p w0 w' ∧ Only p w w') := fun w1 hc ho => (H1 C cap p w0 w1 hc).mono fun e w' ⟨a, b, c⟩ => ⟨a, b, ho.trans c⟩
      have H2H : Hid (∀ w1, Cux zs len st2 C cap p w0 w1 → Only p w w1 → Calls Tryd.prog 24 #[.pointer (some ⟨p, 0, none⟩), .int .i64 4294967296] w1 fun e w' => e = .returned (.int .i64 x2) ∧ Cux zs len st3 C cap p w0 w' ∧ Only p w w') := fun w1 hc ho => (H2 C cap p w0 w1 hc).mono fun e w' ⟨a, b, c⟩ => ⟨a, b, ho.trans c⟩
      clear hc H0 H1 H2
      go_enter Tryd.func43, Tryd.ntmps43
      go_wp2_with (go_at_call 24; fail)
      refine H0H.out.mono ?_
      rintro e v1 ⟨rfl, hc1, ho1⟩
      go_wp2_with (go_at_call 24; fail)
      refine (H1H.out _ hc1 ho1).mono ?_
      rintro e v2 ⟨rfl, hc2, ho2⟩
      go_wp2_with (go_at_call 24; fail)
      refine (H2H.out _ hc2 ho2).mono ?_
      rintro e v3 ⟨rfl, hc3, ho3⟩
      go_wp2
      go_ret
      exact ⟨rfl, hc3, ho3⟩
  · obtain ⟨x1, st2, a1, b1, H1⟩ := below_det 64 (by decide) zs len st1
    obtain ⟨x2, st3, a2, b2, H2⟩ := below_det 3 (by decide) zs len st2
    refine ⟨(wrap64 (wrap64 (wrap64 (2 ^ x1.toNat) + x2) - 1)), st3, ?_, fun C cap p w0 w hc => ?_⟩
    · first | (unfold I64; omega) | exact wrap64_in _
    · skip
      have H0H : Hid (Calls Tryd.prog 24 #[.pointer (some ⟨p, 0, none⟩), .int .i64 6] w fun e w' => e = .returned (.int .i64 5) ∧ Cux zs len st1 C cap p w0 w' ∧ Only p w w') := H0 C cap p w0 w hc
      have H1H : Hid (∀ w1, Cux zs len st1 C cap p w0 w1 → Only p w w1 → Calls Tryd.prog 24 #[.pointer (some ⟨p, 0, none⟩), .int .i64 64] w1 fun e w' => e = .returned (.int .i64 x1) ∧ Cux zs len st2 C cap p w0 w' ∧ Only p w w') := fun w1 hc ho => (H1 C cap p w0 w1 hc).mono fun e w' ⟨a, b, c⟩ => ⟨a, b, ho.trans c⟩
      have H2H : Hid (∀ w1, Cux zs len st2 C cap p w0 w1 → Only p w w1 → Calls Tryd.prog 24 #[.pointer (some ⟨p, 0, none⟩), .int .i64 3] w1 fun e w' => e = .returned (.int .i64 x2) ∧ Cux zs len st3 C cap p w0 w' ∧ Only p w w') := fun w1 hc ho => (H2 C cap p w0 w1 hc).mono fun e w' ⟨a, b, c⟩ => ⟨a, b, ho.trans c⟩
      clear hc H0 H1 H2
      go_enter Tryd.func43, Tryd.ntmps43
      go_wp2_with (go_at_call 24; fail)
      refine H0H.out.mono ?_
      rintro e v1 ⟨rfl, hc1, ho1⟩
      go_wp2_with (go_at_call 24; fail)
      refine (H1H.out _ hc1 ho1).mono ?_
      rintro e v2 ⟨rfl, hc2, ho2⟩
      go_wp2_with (go_at_call 24; fail)
      refine (H2H.out _ hc2 ho2).mono ?_
      rintro e v3 ⟨rfl, hc3, ho3⟩
      go_wp2
      go_ret
      exact ⟨rfl, hc3, ho3⟩

set_option maxRecDepth 1000000 in
set_option maxHeartbeats 4000000 in
/-- spec.Convert of a number of 64 bits to a float: the same in every world. -/
theorem conv_det (n : Int) (h1 : -9223372036854775808 ≤ n) (h2 : n < 9223372036854775808) :
    ∃ x : Int, I64 x ∧ ∀ w : World, Calls Tryd.prog 42 #[.int .i64 2, .int .i64 3, .int .i64 n] w fun e w' => e = .returned (.tuple #[.int .i64 x, .bool true]) ∧ Below w.heap.size w w' := by
  have sgnH : Hid (∀ b x w, Calls Tryd.prog 25 #[.bool b, .int .i64 x] w fun e w' => e = .returned (.int .i64 (signedOf b x)) ∧ w' = w) := fun b x w => signed_calls b x w
  by_cases hm : n = -9223372036854775808
  · subst hm
    refine ⟨signedOf true 4890909195324358656, signed_i64 _ _ (by unfold I64; omega), fun w => ?_⟩
    go_enter Tryd.func42, Tryd.ntmps42
    go_wp2_with (go_at_call 25; refine (sgnH.out _ _ _).mono ?_; rintro e w' ⟨rfl, he⟩; subst he)
    go_ret2
    exact ⟨rfl, Below.refl _ _⟩
  · have hm' : (n == -9223372036854775808) = false := by simpa using hm
    by_cases hn : n < 0
    · obtain ⟨m, hmn⟩ : ∃ m : Nat, -n = m := ⟨n.natAbs, by omega⟩
      have hneg : wrap64 (-n) = (m : Int) := by rw [hmn]; exact wrap64_id _ (by omega) (by omega)
      have hmb : m < 9223372036854775808 := by omega
      refine ⟨signedOf true ((rndOf m 0 : Nat) : Int), signed_i64 _ _ (by have := rnd_le m 0; unfold I64; omega), fun w => ?_⟩
      have bitsH : Hid (∀ w, Calls Tryd.prog 29 #[.int .i64 (m : Int)] w fun e w' => ∃ v k, k ≤ 63 ∧ m / 2 ^ k = 0 ∧ e = .returned v ∧ w'.ownsRow w.heap.size 2 1 v k (bitRow m k) ∧ Below w.heap.size w w') := fun w => bits_calls m hmb w
      have rndH : Hid (∀ v q B w, q ≤ 63 → m / 2 ^ q = 0 → w.ownsRow B 2 1 v q (bitRow m q) → Calls Tryd.prog 28 #[.bool true, v, .int .i64 0, .bool false] w fun e w' => e = .returned (.int .i64 (signedOf true ((rndOf m 0 : Nat) : Int))) ∧ w' = w) := fun v q B w hq hz h => round_own true v q m B 0 w hq hz (by omega) (by omega) h
      generalize signedOf true ((rndOf m 0 : Nat) : Int) = R at *
      clear hmn hmb h1 h2
      go_enter Tryd.func42, Tryd.ntmps42
      go_wp2_with (go_at_call 29; fail)
      refine (bitsH.out _).mono ?_
      rintro e w3 ⟨v, q, hq, hz3, rfl, ho, hb3⟩
      have rndH2 : Hid (Calls Tryd.prog 28 #[.bool true, v, .int .i64 0, .bool false] w3 fun e w' => e = .returned (.int .i64 R) ∧ w' = w3) := rndH.out v q _ w3 hq hz3 ho
      clear ho hz3 hq rndH
      go_wp2_with (go_at_call 28; refine rndH2.out.mono ?_; rintro e w4 ⟨rfl, he⟩; subst he)
      go_ret2
      exact ⟨rfl, hb3⟩
    · obtain ⟨m, rfl⟩ : ∃ m : Nat, n = m := ⟨n.toNat, by omega⟩
      have hmb : m < 9223372036854775808 := by omega
      refine ⟨signedOf false ((rndOf m 0 : Nat) : Int), signed_i64 _ _ (by have := rnd_le m 0; unfold I64; omega), fun w => ?_⟩
      have bitsH : Hid (∀ w, Calls Tryd.prog 29 #[.int .i64 (m : Int)] w fun e w' => ∃ v k, k ≤ 63 ∧ m / 2 ^ k = 0 ∧ e = .returned v ∧ w'.ownsRow w.heap.size 2 1 v k (bitRow m k) ∧ Below w.heap.size w w') := fun w => bits_calls m hmb w
      have rndH : Hid (∀ v q B w, q ≤ 63 → m / 2 ^ q = 0 → w.ownsRow B 2 1 v q (bitRow m q) → Calls Tryd.prog 28 #[.bool false, v, .int .i64 0, .bool false] w fun e w' => e = .returned (.int .i64 (signedOf false ((rndOf m 0 : Nat) : Int))) ∧ w' = w) := fun v q B w hq hz h => round_own false v q m B 0 w hq hz (by omega) (by omega) h
      generalize signedOf false ((rndOf m 0 : Nat) : Int) = R at *
      clear hmb h1 h2 hm
      go_enter Tryd.func42, Tryd.ntmps42
      go_wp2_with (go_at_call 29; fail)
      refine (bitsH.out _).mono ?_
      rintro e w3 ⟨v, q, hq, hz3, rfl, ho, hb3⟩
      have rndH2 : Hid (Calls Tryd.prog 28 #[.bool false, v, .int .i64 0, .bool false] w3 fun e w' => e = .returned (.int .i64 R) ∧ w' = w3) := rndH.out v q _ w3 hq hz3 ho
      clear ho hz3 hq rndH
      go_wp2_with (go_at_call 28; refine rndH2.out.mono ?_; rintro e w4 ⟨rfl, he⟩; subst he)
      go_ret2
      exact ⟨rfl, hb3⟩
theorem Only.below {p : Nat} {a b c : World} (h : Only p a b) (hb : Below b.heap.size b c) : Only p a c := h.trans ⟨hb.size, fun k hk _ => hb.block k hk⟩

set_option maxRecDepth 1000000 in
set_option maxHeartbeats 8000000 in
theorem bits_det (zs : List Int) (len : Nat) (st : Nat × Int) : ∃ x st', I64 x ∧ Det1 21 zs len st st' (.int .i64 x) := by
  obtain ⟨x0, st1, a0, b0, H0⟩ := below_det 8 (by decide) zs len st
  have hcase : x0 = 0 ∨ x0 = 1 ∨ x0 = 2 ∨ x0 = 3 ∨ x0 = 4 ∨ 5 ≤ x0 := by omega
  rcases hcase with rfl | rfl | rfl | rfl | rfl | h5
  · obtain ⟨r, st2, hr0, hr1, H1⟩ := below_det 8 (by decide) zs len st1
    obtain ⟨v, hv, hcell⟩ := eightX 0 (-9223372036854775808) 9218868437227405312 (-4503599627370496) 9221120237041090560 (-1) 1 4607182418800017408 2 r hr0 hr1
    refine ⟨v, st2, by unfold I64; omega, fun C cap p w0 w hc => ?_⟩
    have H0H : Hid (Calls Tryd.prog 24 #[.pointer (some ⟨p, 0, none⟩), .int .i64 8] w fun e w' => e = .returned (.int .i64 0) ∧ Cux zs len st1 C cap p w0 w' ∧ Only p w w') := H0 C cap p w0 w hc
    have H1H : Hid (∀ w1, Cux zs len st1 C cap p w0 w1 → Only p w w1 → Calls Tryd.prog 24 #[.pointer (some ⟨p, 0, none⟩), .int .i64 8] (w1.alloc (.cells #[.int .i64 0, .int .i64 (-9223372036854775808), .int .i64 9218868437227405312, .int .i64 (-4503599627370496), .int .i64 9221120237041090560, .int .i64 (-1), .int .i64 1, .int .i64 4607182418800017408] 2)) fun e w' => e = .returned (.int .i64 r) ∧ Cux zs len st2 C cap p w0 w' ∧ Only p w w' ∧ w'.cell? ⟨w1.heap.size, r.toNat, none⟩ = some (.int .i64 v)) := fun w1 hc ho => (H1 C cap p w0 _ (hc.alloc _)).mono fun e w' ⟨a, b, c⟩ => ⟨a, b, (ho.alloc _).trans c, hcell p _ _ c hc.lt⟩
    clear hc H0 H1 hcell hv
    go_enter Tryd.func21, Tryd.ntmps21
    go_wp2_with (go_at_call 24; fail)
    refine H0H.out.mono ?_
    rintro e v1 ⟨rfl, hc1, ho1⟩
    go_wp2_with (go_at_call 24; fail)
    refine (H1H.out _ hc1 ho1).mono ?_
    rintro e v2 ⟨rfl, hc2, ho2, hcc⟩
    go_wp2
    go_ret
    exact ⟨rfl, hc2, ho2⟩
  · obtain ⟨x1, st2, a1, H1⟩ := long_det zs len st1
    obtain ⟨y, hy, hcv⟩ := conv_det x1 a1.1 a1.2
    refine ⟨y, st2, ?_, fun C cap p w0 w hc => ?_⟩
    · exact hy
    · skip
      have H0H : Hid (Calls Tryd.prog 24 #[.pointer (some ⟨p, 0, none⟩), .int .i64 8] w fun e w' => e = .returned (.int .i64 1) ∧ Cux zs len st1 C cap p w0 w' ∧ Only p w w') := H0 C cap p w0 w hc
      have H1H : Hid (∀ w1, Cux zs len st1 C cap p w0 w1 → Only p w w1 → Calls Tryd.prog 43 #[.pointer (some ⟨p, 0, none⟩)] w1 fun e w' => e = .returned (.int .i64 x1) ∧ Cux zs len st2 C cap p w0 w' ∧ Only p w w') := fun w1 hc ho => (H1 C cap p w0 w1 hc).mono fun e w' ⟨a, b, c⟩ => ⟨a, b, ho.trans c⟩
      have cvH : Hid (∀ w1, Cux zs len st2 C cap p w0 w1 → Only p w w1 → Calls Tryd.prog 42 #[.int .i64 2, .int .i64 3, .int .i64 x1] w1 fun e w' => e = .returned (.tuple #[.int .i64 y, .bool true]) ∧ Cux zs len st2 C cap p w0 w' ∧ Only p w w') := fun w1 hc ho => (hcv w1).mono fun e w' ⟨a, hb⟩ => ⟨a, hc.later hb, ho.below hb⟩
      clear hcv
      clear hc H0 H1
      go_enter Tryd.func21, Tryd.ntmps21
      go_wp2_with (go_at_call 24; fail)
      refine H0H.out.mono ?_
      rintro e v1 ⟨rfl, hc1, ho1⟩
      go_wp2_with (go_at_call 43; fail)
      refine (H1H.out _ hc1 ho1).mono ?_
      rintro e v2 ⟨rfl, hc2, ho2⟩
      go_wp2_with (go_at_call 42; fail)
      refine (cvH.out _ hc2 ho2).mono ?_
      rintro e v3 ⟨rfl, hc3, ho3⟩
      go_wp2
      go_ret
      exact ⟨rfl, hc3, ho3⟩
  · obtain ⟨x1, st2, a1, H1⟩ := long_det zs len st1
    obtain ⟨y, hy, hcv⟩ := conv_det x1 a1.1 a1.2
    refine ⟨y, st2, ?_, fun C cap p w0 w hc => ?_⟩
    · exact hy
    · skip
      have H0H : Hid (Calls Tryd.prog 24 #[.pointer (some ⟨p, 0, none⟩), .int .i64 8] w fun e w' => e = .returned (.int .i64 2) ∧ Cux zs len st1 C cap p w0 w' ∧ Only p w w') := H0 C cap p w0 w hc
      have H1H : Hid (∀ w1, Cux zs len st1 C cap p w0 w1 → Only p w w1 → Calls Tryd.prog 43 #[.pointer (some ⟨p, 0, none⟩)] w1 fun e w' => e = .returned (.int .i64 x1) ∧ Cux zs len st2 C cap p w0 w' ∧ Only p w w') := fun w1 hc ho => (H1 C cap p w0 w1 hc).mono fun e w' ⟨a, b, c⟩ => ⟨a, b, ho.trans c⟩
      have cvH : Hid (∀ w1, Cux zs len st2 C cap p w0 w1 → Only p w w1 → Calls Tryd.prog 42 #[.int .i64 2, .int .i64 3, .int .i64 x1] w1 fun e w' => e = .returned (.tuple #[.int .i64 y, .bool true]) ∧ Cux zs len st2 C cap p w0 w' ∧ Only p w w') := fun w1 hc ho => (hcv w1).mono fun e w' ⟨a, hb⟩ => ⟨a, hc.later hb, ho.below hb⟩
      clear hcv
      clear hc H0 H1
      go_enter Tryd.func21, Tryd.ntmps21
      go_wp2_with (go_at_call 24; fail)
      refine H0H.out.mono ?_
      rintro e v1 ⟨rfl, hc1, ho1⟩
      go_wp2_with (go_at_call 43; fail)
      refine (H1H.out _ hc1 ho1).mono ?_
      rintro e v2 ⟨rfl, hc2, ho2⟩
      go_wp2_with (go_at_call 42; fail)
      refine (cvH.out _ hc2 ho2).mono ?_
      rintro e v3 ⟨rfl, hc3, ho3⟩
      go_wp2
      go_ret
      exact ⟨rfl, hc3, ho3⟩
  · obtain ⟨x1, st2, H1⟩ := once_det 2 (by decide) zs len st1
    obtain ⟨x2, st3, a2, b2, H2⟩ := below_det 2 (by decide) zs len st2
    obtain ⟨x3, st4, a3, b3, H3⟩ := below_det 100000 (by decide) zs len st3
    refine ⟨(signedOf x1 (x2 * 4503599627370496 + x3)), st4, ?_, fun C cap p w0 w hc => ?_⟩
    · first | exact signed_i64 _ _ (wrap64_in _) | exact signed_i64 _ _ (by unfold I64; omega)
    · skip
      have H0H : Hid (Calls Tryd.prog 24 #[.pointer (some ⟨p, 0, none⟩), .int .i64 8] w fun e w' => e = .returned (.int .i64 3) ∧ Cux zs len st1 C cap p w0 w' ∧ Only p w w') := H0 C cap p w0 w hc
      have H1H : Hid (∀ w1, Cux zs len st1 C cap p w0 w1 → Only p w w1 → Calls Tryd.prog 44 #[.pointer (some ⟨p, 0, none⟩), .int .i64 2] w1 fun e w' => e = .returned (.bool x1) ∧ Cux zs len st2 C cap p w0 w' ∧ Only p w w') := fun w1 hc ho => (H1 C cap p w0 w1 hc).mono fun e w' ⟨a, b, c⟩ => ⟨a, b, ho.trans c⟩
      have H2H : Hid (∀ w1, Cux zs len st2 C cap p w0 w1 → Only p w w1 → Calls Tryd.prog 24 #[.pointer (some ⟨p, 0, none⟩), .int .i64 2] w1 fun e w' => e = .returned (.int .i64 x2) ∧ Cux zs len st3 C cap p w0 w' ∧ Only p w w') := fun w1 hc ho => (H2 C cap p w0 w1 hc).mono fun e w' ⟨a, b, c⟩ => ⟨a, b, ho.trans c⟩
      have H3H : Hid (∀ w1, Cux zs len st3 C cap p w0 w1 → Only p w w1 → Calls Tryd.prog 24 #[.pointer (some ⟨p, 0, none⟩), .int .i64 100000] w1 fun e w' => e = .returned (.int .i64 x3) ∧ Cux zs len st4 C cap p w0 w' ∧ Only p w w') := fun w1 hc ho => (H3 C cap p w0 w1 hc).mono fun e w' ⟨a, b, c⟩ => ⟨a, b, ho.trans c⟩
      have sgnH : Hid (∀ b x w, Calls Tryd.prog 25 #[.bool b, .int .i64 x] w fun e w' => e = .returned (.int .i64 (signedOf b x)) ∧ w' = w) := fun b x w => signed_calls b x w
      clear hc H0 H1 H2 H3
      go_enter Tryd.func21, Tryd.ntmps21
      go_wp2_with (go_at_call 24; fail)
      refine H0H.out.mono ?_
      rintro e v1 ⟨rfl, hc1, ho1⟩
      go_wp2_with (go_at_call 44; fail)
      refine (H1H.out _ hc1 ho1).mono ?_
      rintro e v2 ⟨rfl, hc2, ho2⟩
      go_wp2_with (go_at_call 24; fail)
      refine (H2H.out _ hc2 ho2).mono ?_
      rintro e v3 ⟨rfl, hc3, ho3⟩
      go_wp2_with (go_at_call 24; fail)
      refine (H3H.out _ hc3 ho3).mono ?_
      rintro e v4 ⟨rfl, hc4, ho4⟩
      go_wp2_with (go_at_call 25; refine (sgnH.out _ _ _).mono ?_; rintro e w6 ⟨rfl, he⟩; subst he)
      go_ret
      exact ⟨rfl, hc4, ho4⟩
  · obtain ⟨x1, st2, H1⟩ := once_det 2 (by decide) zs len st1
    obtain ⟨x2, st3, a2, b2, H2⟩ := below_det 2 (by decide) zs len st2
    obtain ⟨x3, st4, a3, b3, H3⟩ := below_det 4 (by decide) zs len st3
    refine ⟨(signedOf x1 ((2045 + x2) * 4503599627370496 + 4503599627370495 - x3)), st4, ?_, fun C cap p w0 w hc => ?_⟩
    · first | exact signed_i64 _ _ (wrap64_in _) | exact signed_i64 _ _ (by unfold I64; omega)
    · skip
      have H0H : Hid (Calls Tryd.prog 24 #[.pointer (some ⟨p, 0, none⟩), .int .i64 8] w fun e w' => e = .returned (.int .i64 4) ∧ Cux zs len st1 C cap p w0 w' ∧ Only p w w') := H0 C cap p w0 w hc
      have H1H : Hid (∀ w1, Cux zs len st1 C cap p w0 w1 → Only p w w1 → Calls Tryd.prog 44 #[.pointer (some ⟨p, 0, none⟩), .int .i64 2] w1 fun e w' => e = .returned (.bool x1) ∧ Cux zs len st2 C cap p w0 w' ∧ Only p w w') := fun w1 hc ho => (H1 C cap p w0 w1 hc).mono fun e w' ⟨a, b, c⟩ => ⟨a, b, ho.trans c⟩
      have H2H : Hid (∀ w1, Cux zs len st2 C cap p w0 w1 → Only p w w1 → Calls Tryd.prog 24 #[.pointer (some ⟨p, 0, none⟩), .int .i64 2] w1 fun e w' => e = .returned (.int .i64 x2) ∧ Cux zs len st3 C cap p w0 w' ∧ Only p w w') := fun w1 hc ho => (H2 C cap p w0 w1 hc).mono fun e w' ⟨a, b, c⟩ => ⟨a, b, ho.trans c⟩
      have H3H : Hid (∀ w1, Cux zs len st3 C cap p w0 w1 → Only p w w1 → Calls Tryd.prog 24 #[.pointer (some ⟨p, 0, none⟩), .int .i64 4] w1 fun e w' => e = .returned (.int .i64 x3) ∧ Cux zs len st4 C cap p w0 w' ∧ Only p w w') := fun w1 hc ho => (H3 C cap p w0 w1 hc).mono fun e w' ⟨a, b, c⟩ => ⟨a, b, ho.trans c⟩
      have sgnH : Hid (∀ b x w, Calls Tryd.prog 25 #[.bool b, .int .i64 x] w fun e w' => e = .returned (.int .i64 (signedOf b x)) ∧ w' = w) := fun b x w => signed_calls b x w
      clear hc H0 H1 H2 H3
      go_enter Tryd.func21, Tryd.ntmps21
      go_wp2_with (go_at_call 24; fail)
      refine H0H.out.mono ?_
      rintro e v1 ⟨rfl, hc1, ho1⟩
      go_wp2_with (go_at_call 44; fail)
      refine (H1H.out _ hc1 ho1).mono ?_
      rintro e v2 ⟨rfl, hc2, ho2⟩
      go_wp2_with (go_at_call 24; fail)
      refine (H2H.out _ hc2 ho2).mono ?_
      rintro e v3 ⟨rfl, hc3, ho3⟩
      go_wp2_with (go_at_call 24; fail)
      refine (H3H.out _ hc3 ho3).mono ?_
      rintro e v4 ⟨rfl, hc4, ho4⟩
      go_wp2_with (go_at_call 25; refine (sgnH.out _ _ _).mono ?_; rintro e w6 ⟨rfl, he⟩; subst he)
      go_ret
      exact ⟨rfl, hc4, ho4⟩
  · obtain ⟨x1, st2, H1⟩ := once_det 2 (by decide) zs len st1
    obtain ⟨x2, st3, a2, b2, H2⟩ := below_det 50 (by decide) zs len st2
    obtain ⟨x3, st4, a3, b3, H3⟩ := below_det 1048576 (by decide) zs len st3
    obtain ⟨x4, st5, a4, b4, H4⟩ := below_det 4294967296 (by decide) zs len st4
    obtain ⟨x5, st6, a5, b5, H5⟩ := below_det 2 (by decide) zs len st5
    refine ⟨(signedOf x1 (wrap64 ((1000 + x2) * 4503599627370496 + x3 * 4294967296 + wrap64 (x4 * x5)))), st6, ?_, fun C cap p w0 w hc => ?_⟩
    · first | exact signed_i64 _ _ (wrap64_in _) | exact signed_i64 _ _ (by unfold I64; omega)
    · skip
      have H0H : Hid (Calls Tryd.prog 24 #[.pointer (some ⟨p, 0, none⟩), .int .i64 8] w fun e w' => e = .returned (.int .i64 x0) ∧ Cux zs len st1 C cap p w0 w' ∧ Only p w w') := H0 C cap p w0 w hc
      have H1H : Hid (∀ w1, Cux zs len st1 C cap p w0 w1 → Only p w w1 → Calls Tryd.prog 44 #[.pointer (some ⟨p, 0, none⟩), .int .i64 2] w1 fun e w' => e = .returned (.bool x1) ∧ Cux zs len st2 C cap p w0 w' ∧ Only p w w') := fun w1 hc ho => (H1 C cap p w0 w1 hc).mono fun e w' ⟨a, b, c⟩ => ⟨a, b, ho.trans c⟩
      have H2H : Hid (∀ w1, Cux zs len st2 C cap p w0 w1 → Only p w w1 → Calls Tryd.prog 24 #[.pointer (some ⟨p, 0, none⟩), .int .i64 50] w1 fun e w' => e = .returned (.int .i64 x2) ∧ Cux zs len st3 C cap p w0 w' ∧ Only p w w') := fun w1 hc ho => (H2 C cap p w0 w1 hc).mono fun e w' ⟨a, b, c⟩ => ⟨a, b, ho.trans c⟩
      have H3H : Hid (∀ w1, Cux zs len st3 C cap p w0 w1 → Only p w w1 → Calls Tryd.prog 24 #[.pointer (some ⟨p, 0, none⟩), .int .i64 1048576] w1 fun e w' => e = .returned (.int .i64 x3) ∧ Cux zs len st4 C cap p w0 w' ∧ Only p w w') := fun w1 hc ho => (H3 C cap p w0 w1 hc).mono fun e w' ⟨a, b, c⟩ => ⟨a, b, ho.trans c⟩
      have H4H : Hid (∀ w1, Cux zs len st4 C cap p w0 w1 → Only p w w1 → Calls Tryd.prog 24 #[.pointer (some ⟨p, 0, none⟩), .int .i64 4294967296] w1 fun e w' => e = .returned (.int .i64 x4) ∧ Cux zs len st5 C cap p w0 w' ∧ Only p w w') := fun w1 hc ho => (H4 C cap p w0 w1 hc).mono fun e w' ⟨a, b, c⟩ => ⟨a, b, ho.trans c⟩
      have H5H : Hid (∀ w1, Cux zs len st5 C cap p w0 w1 → Only p w w1 → Calls Tryd.prog 24 #[.pointer (some ⟨p, 0, none⟩), .int .i64 2] w1 fun e w' => e = .returned (.int .i64 x5) ∧ Cux zs len st6 C cap p w0 w' ∧ Only p w w') := fun w1 hc ho => (H5 C cap p w0 w1 hc).mono fun e w' ⟨a, b, c⟩ => ⟨a, b, ho.trans c⟩
      have sgnH : Hid (∀ b x w, Calls Tryd.prog 25 #[.bool b, .int .i64 x] w fun e w' => e = .returned (.int .i64 (signedOf b x)) ∧ w' = w) := fun b x w => signed_calls b x w
      clear hc H0 H1 H2 H3 H4 H5
      go_enter Tryd.func21, Tryd.ntmps21
      go_wp2_with (go_at_call 24; fail)
      refine H0H.out.mono ?_
      rintro e v1 ⟨rfl, hc1, ho1⟩
      go_wp2_with (go_at_call 44; fail)
      refine (H1H.out _ hc1 ho1).mono ?_
      rintro e v2 ⟨rfl, hc2, ho2⟩
      go_wp2_with (go_at_call 24; fail)
      refine (H2H.out _ hc2 ho2).mono ?_
      rintro e v3 ⟨rfl, hc3, ho3⟩
      go_wp2_with (go_at_call 24; fail)
      refine (H3H.out _ hc3 ho3).mono ?_
      rintro e v4 ⟨rfl, hc4, ho4⟩
      go_wp2_with (go_at_call 24; fail)
      refine (H4H.out _ hc4 ho4).mono ?_
      rintro e v5 ⟨rfl, hc5, ho5⟩
      go_wp2_with (go_at_call 24; fail)
      refine (H5H.out _ hc5 ho5).mono ?_
      rintro e v6 ⟨rfl, hc6, ho6⟩
      go_wp2_with (go_at_call 25; refine (sgnH.out _ _ _).mono ?_; rintro e w6 ⟨rfl, he⟩; subst he)
      go_ret
      exact ⟨rfl, hc6, ho6⟩
end Go.Proofs.YtjbknbinaegpkaaDoor
