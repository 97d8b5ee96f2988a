/- The drawing of two floats: some two numbers of 64 bits; nothing that was there has changed. -/
import Derived.Test.YtjbknbinaegpkaaDoorDraw
import Derived.Test.YtjbknbinaegpkaaDoorSpq
import Derived.Laws.Closers25b
namespace Go.Proofs.YtjbknbinaegpkaaDoor
set_option linter.unusedVariables false
open Go.ChangeShapes Go.WideShapes Go.ChangeAt Go.RowKit

theorem Cur.later {C : Option Addr} {len cap p : Nat} {w0 w w' : World} (h : Cur C len cap p w0 w) (hb : Below w.heap.size w w') : Cur C len cap p w0 w' := by
  have hl := h.lt
  have hblk := hb.block p hl
  refine ⟨h.code, h.bel.trans (hb.mono h.bel.size), h.new, ?_, ?_, ?_⟩
  · obtain ⟨k, s, hk, c0, c1, c2⟩ := h.row
    exact ⟨k, s, hk, by rw [World.cell?_of_block (w := w) hblk]; exact c0, by rw [World.cell?_of_block (w := w) hblk]; exact c1, by rw [World.cell?_of_block (w := w) hblk]; exact c2⟩
  · rw [World.frozen?_of_block (w := w) hblk]; exact h.f1
  · rw [World.frozen?_of_block (w := w) hblk]; exact h.f2

/-- A number of 64 bits. -/
def I64 (x : Int) : Prop := -9223372036854775808 ≤ x ∧ x < 9223372036854775808

theorem once_calls (C : Option Addr) (len cap p : Nat) (w0 w : World) (n : Int) (h1 : 0 < n) (h : Cur C len cap p w0 w) :
    Calls Tryd.prog 44 #[.pointer (some ⟨p, 0, none⟩), .int .i64 n] w fun e w' => ∃ b : Bool, e = .returned (.bool b) ∧ Cur C len cap p w0 w' := by
  have hb : Hid (Calls Tryd.prog 24 #[.pointer (some ⟨p, 0, none⟩), .int .i64 n] w fun e w' => ∃ x : Int, 0 ≤ x ∧ x < n ∧ e = .returned (.int .i64 x) ∧ Cur C len cap p w0 w' ∧ Only p w w') := below_calls C len cap p w0 w n h1 h
  clear h
  go_enter Tryd.func44, Tryd.ntmps44
  go_wp2_with (go_at_call 24; refine hb.out.mono ?_; rintro e w' ⟨x, hx0, hx1, rfl, hc, ho⟩)
  go_ret
  exact ⟨_, rfl, hc⟩

theorem signed_i64 (s : Bool) (n : Int) (h : I64 n) : I64 (signedOf s n) := by
  unfold signedOf
  cases s
  · exact h
  · have h1 := bits_lo_i64 .or n (-9223372036854775808)
    have h2 := bits_hi_i64 .or n (-9223372036854775808)
    rw [if_pos rfl]
    unfold I64
    omega

set_option maxRecDepth 1000000 in
set_option maxHeartbeats 4000000 in
theorem conv_calls (n : Int) (h1 : -9223372036854775808 ≤ n) (h2 : n < 9223372036854775808) (w : World) :
    Calls Tryd.prog 42 #[.int .i64 2, .int .i64 3, .int .i64 n] w fun e w' => ∃ x : Int, I64 x ∧ (∃ b : Bool, e = .returned (.tuple #[.int .i64 x, .bool b])) ∧ Below w.heap.size w w' := by
  have sgnH : Hid (∀ b x w, Calls Tryd.prog 25 #[.bool b, .int .i64 x] w fun e w' => e = .returned (.int .i64 (signedOf b x)) ∧ w' = w) := fun b x w => signed_calls b x w
  by_cases hm : n = -9223372036854775808
  · subst hm
    go_enter Tryd.func42, Tryd.ntmps42
    go_wp2_with (go_at_call 25; refine (sgnH.out _ _ _).mono ?_; rintro e w' ⟨rfl, he⟩; subst he)
    go_ret2
    exact ⟨_, signed_i64 _ _ (by unfold I64; omega), ⟨_, rfl⟩, Below.refl _ _⟩
  · have hm' : (n == -9223372036854775808) = false := by simpa using hm
    by_cases hn : n < 0
    · obtain ⟨m, hmn⟩ : ∃ m : Nat, -n = m := ⟨n.natAbs, by omega⟩
      have hneg : wrap64 (-n) = (m : Int) := by rw [hmn]; exact wrap64_id _ (by omega) (by omega)
      have hmb : m < 9223372036854775808 := by omega
      have bitsH : Hid (∀ w, Calls Tryd.prog 29 #[.int .i64 (m : Int)] w fun e w' => ∃ v k, k ≤ 63 ∧ m / 2 ^ k = 0 ∧ e = .returned v ∧ w'.ownsRow w.heap.size 2 1 v k (bitRow m k) ∧ Below w.heap.size w w') := fun w => bits_calls m hmb w
      have rndH : Hid (∀ v q B w, q ≤ 63 → m / 2 ^ q = 0 → w.ownsRow B 2 1 v q (bitRow m q) → Calls Tryd.prog 28 #[.bool true, v, .int .i64 0, .bool false] w fun e w' => e = .returned (.int .i64 (signedOf true ((rndOf m 0 : Nat) : Int))) ∧ w' = w) := fun v q B w hq hz h => round_own true v q m B 0 w hq hz (by omega) (by omega) h
      have hin : Hid (I64 (signedOf true ((rndOf m 0 : Nat) : Int))) := signed_i64 _ _ (by have := rnd_le m 0; unfold I64; omega)
      generalize signedOf true ((rndOf m 0 : Nat) : Int) = R at *
      clear hmn hmb h1 h2
      go_enter Tryd.func42, Tryd.ntmps42
      go_wp2_with (go_at_call 29; fail)
      refine (bitsH.out _).mono ?_
      rintro e w3 ⟨v, q, hq, hz3, rfl, ho, hb3⟩
      have rndH2 : Hid (Calls Tryd.prog 28 #[.bool true, v, .int .i64 0, .bool false] w3 fun e w' => e = .returned (.int .i64 R) ∧ w' = w3) := rndH.out v q _ w3 hq hz3 ho
      clear ho hz3 hq rndH
      go_wp2_with (go_at_call 28; refine rndH2.out.mono ?_; rintro e w4 ⟨rfl, he⟩; subst he)
      go_ret2
      exact ⟨_, hin.out, ⟨_, rfl⟩, hb3⟩
    · obtain ⟨m, rfl⟩ : ∃ m : Nat, n = m := ⟨n.toNat, by omega⟩
      have hmb : m < 9223372036854775808 := by omega
      have bitsH : Hid (∀ w, Calls Tryd.prog 29 #[.int .i64 (m : Int)] w fun e w' => ∃ v k, k ≤ 63 ∧ m / 2 ^ k = 0 ∧ e = .returned v ∧ w'.ownsRow w.heap.size 2 1 v k (bitRow m k) ∧ Below w.heap.size w w') := fun w => bits_calls m hmb w
      have rndH : Hid (∀ v q B w, q ≤ 63 → m / 2 ^ q = 0 → w.ownsRow B 2 1 v q (bitRow m q) → Calls Tryd.prog 28 #[.bool false, v, .int .i64 0, .bool false] w fun e w' => e = .returned (.int .i64 (signedOf false ((rndOf m 0 : Nat) : Int))) ∧ w' = w) := fun v q B w hq hz h => round_own false v q m B 0 w hq hz (by omega) (by omega) h
      have hin : Hid (I64 (signedOf false ((rndOf m 0 : Nat) : Int))) := signed_i64 _ _ (by have := rnd_le m 0; unfold I64; omega)
      generalize signedOf false ((rndOf m 0 : Nat) : Int) = R at *
      clear hmb h1 h2 hm
      go_enter Tryd.func42, Tryd.ntmps42
      go_wp2_with (go_at_call 29; fail)
      refine (bitsH.out _).mono ?_
      rintro e w3 ⟨v, q, hq, hz3, rfl, ho, hb3⟩
      have rndH2 : Hid (Calls Tryd.prog 28 #[.bool false, v, .int .i64 0, .bool false] w3 fun e w' => e = .returned (.int .i64 R) ∧ w' = w3) := rndH.out v q _ w3 hq hz3 ho
      clear ho hz3 hq rndH
      go_wp2_with (go_at_call 28; refine rndH2.out.mono ?_; rintro e w4 ⟨rfl, he⟩; subst he)
      go_ret2
      exact ⟨_, hin.out, ⟨_, rfl⟩, hb3⟩

set_option maxRecDepth 1000000 in
set_option maxHeartbeats 8000000 in
theorem drawBits_calls (C : Option Addr) (len cap p : Nat) (w0 w : World) (h : Cur C len cap p w0 w) :
    Calls Tryd.prog 21 #[.pointer (some ⟨p, 0, none⟩)] w fun e w' => ∃ x : Int, I64 x ∧ e = .returned (.int .i64 x) ∧ Cur C len cap p w0 w' := by
  have ho := Only.refl p w
  have belowH : Hid (∀ w1 n, 0 < n → Cur C len cap p w0 w1 → Calls Tryd.prog 24 #[.pointer (some ⟨p, 0, none⟩), .int .i64 n] w1 fun e w' => ∃ x : Int, 0 ≤ x ∧ x < n ∧ e = .returned (.int .i64 x) ∧ Cur C len cap p w0 w') := fun w1 n hn hc => (below_calls C len cap p w0 w1 n hn hc).mono fun e w' ⟨x, a, b, c, d, f⟩ => ⟨x, a, b, c, d⟩
  have onceH : Hid (∀ w1 n, 0 < n → Cur C len cap p w0 w1 → Calls Tryd.prog 44 #[.pointer (some ⟨p, 0, none⟩), .int .i64 n] w1 fun e w' => ∃ b : Bool, e = .returned (.bool b) ∧ Cur C len cap p w0 w') := fun w1 n hn hc => once_calls C len cap p w0 w1 n hn hc
  have sgnH : Hid (∀ b x w, Calls Tryd.prog 25 #[.bool b, .int .i64 x] w fun e w' => e = .returned (.int .i64 (signedOf b x)) ∧ w' = w) := fun b x w => signed_calls b x w
  have longH : Hid (∀ w1, Cur C len cap p w0 w1 → Calls Tryd.prog 43 #[.pointer (some ⟨p, 0, none⟩)] w1 fun e w' => ∃ x : Int, -9223372036854775808 ≤ x ∧ x < 9223372036854775808 ∧ e = .returned (.int .i64 x) ∧ Cur C len cap p w0 w') := fun w1 hc => (drawLong_calls C len cap p w0 w1 hc).mono fun e w' ⟨x, a, b, c, d, f⟩ => ⟨x, a, b, c, d⟩
  have convH : Hid (∀ (n : Int) w1, -9223372036854775808 ≤ n → n < 9223372036854775808 → Cur C len cap p w0 w1 → Calls Tryd.prog 42 #[.int .i64 2, .int .i64 3, .int .i64 n] w1 fun e w' => ∃ x : Int, I64 x ∧ (∃ b : Bool, e = .returned (.tuple #[.int .i64 x, .bool b])) ∧ Cur C len cap p w0 w') := fun n w1 a b hc => (conv_calls n a b w1).mono fun e w' ⟨x, q, r, hb⟩ => ⟨x, q, r, hc.later hb⟩
  have eightH : Hid (∀ w1, Cur C len cap p w0 w1 → Calls Tryd.prog 24 #[.pointer (some ⟨p, 0, none⟩), .int .i64 8] (w1.alloc (.cells #[.int .i64 0, .int .i64 (-9223372036854775808), .int .i64 9218868437227405312, .int .i64 (-4503599627370496), .int .i64 9221120237041090560, .int .i64 (-1), .int .i64 1, .int .i64 4607182418800017408] 2)) fun e w' => ∃ r : Int, 0 ≤ r ∧ r < 8 ∧ e = .returned (.int .i64 r) ∧ Cur C len cap p w0 w' ∧ ∃ v, I64 v ∧ w'.cell? ⟨w1.heap.size, r.toNat, none⟩ = some (.int .i64 v)) := fun w1 hc => by
    refine (below_calls C len cap p w0 _ 8 (by decide) (Cur.alloc hc _)).mono ?_
    rintro e w2 ⟨r, hr0, hr1, rfl, hc2, ho2⟩
    obtain ⟨v, hv, hcell⟩ := eight p _ w2 _ _ _ _ _ _ _ _ _ r ho2 (Cur.lt hc) hr0 hr1
    exact ⟨r, hr0, hr1, rfl, hc2, v, by unfold I64; omega, hcell⟩
  have sgnI : Hid (∀ (b : Bool) (x : Int), I64 x → I64 (signedOf b x)) := signed_i64
  have wrapI : Hid (∀ x : Int, I64 (wrap64 x)) := fun x => wrap64_in x
  have leftI : Hid (∀ x : Int, -9223372036854775808 ≤ x → x < 9223372036854775808 → I64 x) := fun x a b => ⟨a, b⟩
  go_enter Tryd.func21, Tryd.ntmps21
  go_wp2_with (go_at_call 24; fail)
  refine (belowH.out _ _ (by decide) h).mono ?_
  rintro e w1 ⟨x0, hx0, hx1, rfl, hc1⟩
  clear h ho
  have hcase : x0 = 0 ∨ x0 = 1 ∨ x0 = 2 ∨ x0 = 3 ∨ x0 = 4 ∨ 5 ≤ x0 := by omega
  rcases hcase with rfl | rfl | rfl | rfl | rfl | h5
  · clear hx0 hx1
    go_wp2_with (go_at_call 24; refine (eightH.out _ hc1).mono ?_; rintro e w2 ⟨r, hr0, hr1, rfl, hc2, v, hv, hcell⟩)
    go_ret
    exact ⟨_, hv, rfl, hc2⟩
  all_goals (
    clear eightH
    go_wp2_with (first
      | (go_at_call 44; refine (onceH.out _ _ (by decide) (by assumption)).mono ?_; rintro e w2 ⟨b2, rfl, hc2⟩)
      | (go_at_call 24; refine (belowH.out _ _ (by decide) (by assumption)).mono ?_; rintro e w3 ⟨x3, hx30, hx31, rfl, hc3⟩)
      | (go_at_call 43; refine (longH.out _ (by assumption)).mono ?_; rintro e w4 ⟨x4, hx40, hx41, rfl, hc4⟩)
      | (go_at_call 42; refine (convH.out _ _ (by assumption) (by assumption) (by assumption)).mono ?_; rintro e w5 ⟨x5, hx5, ⟨b5, rfl⟩, hc5⟩)
      | (go_at_call 25; refine (sgnH.out _ _ _).mono ?_; rintro e w6 ⟨rfl, he⟩; subst he))
    go_ret
    refine ⟨_, ?_, rfl, by assumption⟩
    first | assumption | exact sgnI.out _ _ (wrapI.out _) | exact sgnI.out _ _ (leftI.out _ (by omega) (by omega)))

set_option maxRecDepth 1000000 in
set_option maxHeartbeats 8000000 in
theorem drawTwo_calls (C : Option Addr) (len cap : Nat) (w : World) (hc : Code C len w) :
    Calls Tryd.prog 30 #[.slice C len cap] w fun e w' => ∃ op a b : Int, I64 a ∧ I64 b ∧ e = .returned (.tuple #[.int .i64 op, .int .i64 a, .int .i64 b]) ∧ Below w.heap.size w w' := by
  have newH : Hid (Calls Tryd.prog 20 #[.slice C len cap] w fun e w' => e = .returned (.pointer (some ⟨w.heap.size, 0, none⟩)) ∧ Cur C len cap w.heap.size w w') := new_calls C len cap w hc
  have belowH : Hid (∀ w1 n, 0 < n → Cur C len cap w.heap.size w w1 → Calls Tryd.prog 24 #[.pointer (some ⟨w.heap.size, 0, none⟩), .int .i64 n] w1 fun e w' => ∃ x : Int, 0 ≤ x ∧ x < n ∧ e = .returned (.int .i64 x) ∧ Cur C len cap w.heap.size w w') := fun w1 n hn hc => (below_calls C len cap _ w w1 n hn hc).mono fun e w' ⟨x, a, b, c, d, f⟩ => ⟨x, a, b, c, d⟩
  have onceH : Hid (∀ w1 n, 0 < n → Cur C len cap w.heap.size w w1 → Calls Tryd.prog 44 #[.pointer (some ⟨w.heap.size, 0, none⟩), .int .i64 n] w1 fun e w' => ∃ b : Bool, e = .returned (.bool b) ∧ Cur C len cap w.heap.size w w') := fun w1 n hn hc => once_calls C len cap _ w w1 n hn hc
  have bitsH : Hid (∀ w1, Cur C len cap w.heap.size w w1 → Calls Tryd.prog 21 #[.pointer (some ⟨w.heap.size, 0, none⟩)] w1 fun e w' => ∃ x : Int, I64 x ∧ e = .returned (.int .i64 x) ∧ Cur C len cap w.heap.size w w') := fun w1 hc => drawBits_calls C len cap _ w w1 hc
  have xorI : Hid (∀ x y : Int, I64 (bits .xor .i64 x y)) := fun x y => by
    have h1 := bits_lo_i64 .xor x y
    have h2 := bits_hi_i64 .xor x y
    unfold I64
    omega
  clear hc
  go_enter Tryd.func30, Tryd.ntmps30
  go_wp2_with (first
    | (go_at_call 20; refine newH.out.mono ?_; rintro e w1 ⟨rfl, hc1⟩)
    | (go_at_call 24; refine (belowH.out _ _ (by decide) (by assumption)).mono ?_; rintro e w3 ⟨x3, hx30, hx31, rfl, hc3⟩)
    | (go_at_call 44; refine (onceH.out _ _ (by decide) (by assumption)).mono ?_; rintro e w2 ⟨b2, rfl, hc2⟩; cases b2)
    | (go_at_call 21; refine (bitsH.out _ (by assumption)).mono ?_; rintro e w4 ⟨x4, hx4, rfl, hc4⟩))
  all_goals (
    go_ret3
    refine ⟨_, _, _, ?_, ?_, rfl, Cur.bel (by assumption)⟩
    · assumption
    · first | assumption | exact xorI.out _ _)

set_option maxRecDepth 1000000 in
theorem drawCmp_calls (C : Option Addr) (len cap : Nat) (w : World) (hl : len ≤ 1048576) (hc : Code C len w) :
    Calls Tryd.prog 13 #[.slice C len cap] w fun e w' => ∃ a b n : Int, I64 a ∧ I64 b ∧ e = .returned (.tuple #[.int .i64 a, .int .i64 b, .int .i64 n]) ∧ Below w.heap.size w w' := by
  have hn : Hid (Calls Tryd.prog 30 #[.slice C len cap] w fun e w' => ∃ op a b : Int, I64 a ∧ I64 b ∧ e = .returned (.tuple #[.int .i64 op, .int .i64 a, .int .i64 b]) ∧ Below w.heap.size w w') := drawTwo_calls C len cap w hc
  clear hc
  go_enter Tryd.func13, Tryd.ntmps13
  go_wp2_with (go_at_call 30; refine hn.out.mono ?_; rintro e w' ⟨op, a, b, ha, hb, rfl, hbel⟩)
  go_ret3
  exact ⟨_, _, _, ha, hb, rfl, hbel⟩
end Go.Proofs.YtjbknbinaegpkaaDoor
