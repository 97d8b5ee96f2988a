/- impl.guessFloat and impl.ReadFloat: what they answer at any text. -/
import Derived.Test.YtjbknbinaegpkaaDoorLdy
import Derived.Test.YtjbknbinaegpkaaDoorPub
import Derived.Test.YtjbknbinaegpkaaDoorSpq
namespace Go.Proofs.YtjbknbinaegpkaaDoor
set_option linter.unusedVariables false
open Go.ChangeShapes Go.WideShapes Go.ChangeAt Go.RowKit
open Ieee

theorem word_pos (r : Nat) : double.word false r = r := by unfold Format.word; simp
theorem float_nat (m : Nat) (h0 : m ≠ 0) (hm : m < 9007199254740992) : floatOfInt .f64 (m : Int) = (m.log2 + 1022) * 4503599627370496 + m * 2 ^ (52 - m.log2) := by
  have e : floatOfInt .f64 (m : Int) = double.nearest (decide ((m : Int) < 0)) (m : Int).natAbs 0 := rfl
  have e2 : decide ((m : Int) < 0) = false := decide_eq_false (by omega)
  rw [e, e2, Int.natAbs_natCast, (nearest_small false m h0 hm).2.2.2, word_pos]
theorem float_none : floatOfInt .f64 0 = 0 := by kernel_rfl

theorem ldexp_zero (k : Int) (w : World) : Calls Tryd.prog 53 #[.float .f64 0, .int .i64 k] w fun e w' => e = .returned (.float .f64 0) ∧ w' = w := by
  have h : (FloatKind.f64.format.order 0 0 == some .eq) = true := by kernel_rfl
  go_enter Tryd.func53, Tryd.ntmps53
  go_wp2
  go_ret
  exact ⟨rfl, rfl⟩
theorem ldx_calls (m : Nat) (hm : m < 9007199254740992) (k : Int) (b1 : -100000 ≤ k) (b2 : k ≤ 100000) (w : World) :
    Calls Tryd.prog 37 #[.float .f64 (floatOfInt .f64 (m : Int)), .int .i64 k] w fun e w' => e = .returned (.float .f64 (rndOf m k)) ∧ w' = w := by
  obtain ⟨X, hX⟩ : ∃ X, floatOfInt .f64 (m : Int) = X := ⟨_, rfl⟩
  have hL : Hid (∀ w, Calls Tryd.prog 53 #[.float .f64 X, .int .i64 k] w fun e w' => e = .returned (.float .f64 (rndOf m k)) ∧ w' = w) := fun w => by
    by_cases h0 : m = 0
    · subst h0
      rw [← hX]
      have hr : rndOf 0 k = 0 := by unfold rndOf; simp
      rw [hr]
      exact ldexp_zero k w
    · rw [← hX, float_nat m h0 hm]
      exact ldexp_calls m h0 hm k b1 b2 w
  rw [hX]
  clear hX
  go_enter Tryd.func37, Tryd.ntmps37
  go_wp2_with (go_at_call 53; refine (hL.out _).mono ?_; rintro e w' ⟨rfl, he⟩; subst he)
  go_ret
  exact ⟨rfl, rfl⟩

theorem bitsOf_num (b : Nat) (h : FloatKind.f64.format.order b b = some .eq) (w : World) : Calls Tryd.prog 31 #[.float .f64 b] w fun e w' => e = .returned (.int .i64 (wrap64 b)) ∧ w' = w := by
  have hN : Hid (∀ w, Calls Tryd.prog 16 #[.float .f64 b] w fun e w' => e = .returned (.bool false) ∧ w' = w) := fun w => by
    have := isNaNB_calls b w; rw [h] at this; exact this
  have hb := f64bits
  clear h
  go_enter Tryd.func31, Tryd.ntmps31
  go_wp2_with (go_at_call 16; refine (hN.out _).mono ?_; rintro e w' ⟨rfl, he⟩; subst he)
  go_ret
  exact ⟨rfl, rfl⟩
theorem bitsOf_rnd (m : Nat) (k : Int) (w : World) : Calls Tryd.prog 31 #[.float .f64 (rndOf m k)] w fun e w' => e = .returned (.int .i64 ((rndOf m k : Nat) : Int)) ∧ w' = w := by
  have hr := rnd_le m k
  have h := bitsOf_num (rndOf m k) (by rw [order_ne _ _ (by omega) (by omega) hr hr, compare_eq rfl]) w
  rw [wrap64_id _ (by omega) (by omega)] at h
  exact h

theorem below_drewN {B : Nat} {a w : World} (h : Below B a w) (n : Nat) : Below B a (w.drewN n) := ⟨h.os, h.tape, h.output, h.size, h.block⟩
theorem trim_len (l : List UInt8) : (Lib.trimPrefix l [45]).length ≤ l.length := by
  unfold Lib.trimPrefix; split <;> simp
theorem cut_len (l : List UInt8) : (Lib.cut l [112]).1.length ≤ l.length ∧ (Lib.cut l [112]).2.1.length ≤ l.length := by
  unfold Lib.cut
  split
  · refine ⟨?_, ?_⟩
    · show (l.take _).length ≤ _; rw [List.length_take]; omega
    · show (l.drop _).length ≤ _; rw [List.length_drop]; omega
  · simp
theorem size_mk (l : List UInt8) : (mkS l).size = l.length := by rw [← toList_size, mkS_list]

set_option maxRecDepth 1000000 in
set_option maxHeartbeats 4000000 in
theorem guessNan_calls (s : ByteArray) (w : World) (h1 : (s.toList == [110, 97, 110]) = true) : Calls Tryd.prog 14 #[.string s] w fun e w' => e = .returned (.tuple #[.int .i64 9221120237041090560, .bool true]) ∧ Below w.heap.size w w' := by
  go_enter Tryd.func14, Tryd.ntmps14
  go_wp2
  go_ret2
  exact ⟨rfl, Below.refl _ _⟩
set_option maxRecDepth 1000000 in
set_option maxHeartbeats 4000000 in
theorem guessUp_calls (s : ByteArray) (w : World) (h1 : (s.toList == [110, 97, 110]) = false) (h2 : (s.toList == [105, 110, 102]) = true) : Calls Tryd.prog 14 #[.string s] w fun e w' => e = .returned (.tuple #[.int .i64 9218868437227405312, .bool true]) ∧ Below w.heap.size w w' := by
  have hI : Hid (∀ w, Calls Tryd.prog 32 #[.int .i64 1] w fun e w' => e = .returned (.float .f64 9218868437227405312) ∧ w' = w) := infUp_calls
  have hB : Hid (∀ w, Calls Tryd.prog 31 #[.float .f64 9218868437227405312] w fun e w' => e = .returned (.int .i64 9218868437227405312) ∧ w' = w) := fun w => by
    have h := bitsOf_num 9218868437227405312 (by kernel_rfl) w
    rw [show wrap64 ((9218868437227405312 : Nat) : Int) = 9218868437227405312 by unfold wrap64; omega] at h
    exact h
  go_enter Tryd.func14, Tryd.ntmps14
  go_wp2_with (first | (go_at_call 32; refine (hI.out _).mono ?_; rintro e w' ⟨rfl, he⟩; subst he) | (go_at_call 31; refine (hB.out _).mono ?_; rintro e w' ⟨rfl, he⟩; subst he))
  go_ret2
  exact ⟨rfl, Below.refl _ _⟩
set_option maxRecDepth 1000000 in
set_option maxHeartbeats 4000000 in
theorem guessDown_calls (s : ByteArray) (w : World) (h1 : (s.toList == [110, 97, 110]) = false) (h2 : (s.toList == [105, 110, 102]) = false) (h3 : (s.toList == [45, 105, 110, 102]) = true) : Calls Tryd.prog 14 #[.string s] w fun e w' => e = .returned (.tuple #[.int .i64 (-4503599627370496), .bool true]) ∧ Below w.heap.size w w' := by
  have hI : Hid (∀ w, Calls Tryd.prog 32 #[.int .i64 (-1)] w fun e w' => e = .returned (.float .f64 18442240474082181120) ∧ w' = w) := infDown_calls
  have hB : Hid (∀ w, Calls Tryd.prog 31 #[.float .f64 18442240474082181120] w fun e w' => e = .returned (.int .i64 (-4503599627370496)) ∧ w' = w) := fun w => by
    have h := bitsOf_num 18442240474082181120 (by kernel_rfl) w
    rw [show wrap64 ((18442240474082181120 : Nat) : Int) = -4503599627370496 by unfold wrap64; omega] at h
    exact h
  go_enter Tryd.func14, Tryd.ntmps14
  go_wp2_with (first | (go_at_call 32; refine (hI.out _).mono ?_; rintro e w' ⟨rfl, he⟩; subst he) | (go_at_call 31; refine (hB.out _).mono ?_; rintro e w' ⟨rfl, he⟩; subst he))
  go_ret2
  exact ⟨rfl, Below.refl _ _⟩

/-- What guessFloat hands back of a guess. -/
def gotI (g : Option Int) : Value := .tuple #[.int .i64 (g.getD 0), .bool g.isSome]

theorem int_bound {l : List UInt8} {k : Int} (h : Lib.parseIntB 16 l = .ok k) : -100000 ≤ k ∧ k ≤ 100000 := by
  have h15 : (2 : Nat) ^ (16 - 1) = 32768 := by decide
  cases l with
  | nil => cases h
  | cons c r =>
    simp only [Lib.parseIntB, h15] at h
    split at h
    · cases h
    · cases h
    · split at h
      · cases h
      · split at h
        · cases h
        · injection h with h
          subst h
          split <;> omega

set_option maxRecDepth 1000000 in
set_option maxHeartbeats 8000000 in
theorem guessNum_calls (s : ByteArray) (hs : s.size ≤ 1048576) (w : World) (he : EnvR w) (h1 : (s.toList == [110, 97, 110]) = false) (h2 : (s.toList == [105, 110, 102]) = false) (h3 : (s.toList == [45, 105, 110, 102]) = false) :
    Calls Tryd.prog 14 #[.string s] w fun e w' => e = .returned (gotI (numI s.data.toList)) ∧ Below w.heap.size w w' := by
  obtain ⟨neg, hneg⟩ : ∃ b, Lib.hasPrefix s.data.toList [45] = b := ⟨_, rfl⟩
  obtain ⟨sz, hsz⟩ : ∃ b, Lib.trimPrefix s.data.toList [45] = b := ⟨_, rfl⟩
  have hl0 := trim_len s.data.toList
  rw [hsz, toList_size] at hl0
  obtain ⟨hl1, hl2⟩ := cut_len sz
  obtain ⟨f, hf⟩ : ∃ b, (Lib.cut sz [112]).2.2 = b := ⟨_, rfl⟩
  obtain ⟨dg, hdg⟩ : ∃ b, (Lib.cut sz [112]).1 = b := ⟨_, rfl⟩
  obtain ⟨pw, hpw⟩ : ∃ b, (Lib.cut sz [112]).2.1 = b := ⟨_, rfl⟩
  rw [hdg] at hl1
  rw [hpw] at hl2
  have hnum : numI s.data.toList = pairI neg (Lib.parseUintB 53 dg) (Lib.parseIntB 16 pw) := by
    unfold numI
    rw [hsz, hneg, hdg, hpw]
  rw [hnum]
  have preH : Hid (∀ w, Calls Tryd.prog 33 #[.string s, .string ⟨#[45]⟩] w fun e w' => e = .returned (.tuple #[.string (mkS sz), .bool neg]) ∧ w' = w) := fun w => by
    have := Tryd.strings_CutPrefix s ⟨#[45]⟩ w
    have h' : (ByteArray.mk #[45]).data.toList = [45] := rfl
    rw [h', hsz, hneg] at this
    exact this
  have cutH : Hid (∀ W : World, W.ShapedOpen Tryd.prog → Calls Tryd.prog 34 #[.string (mkS sz), .string ⟨#[112]⟩] W fun e w' => e = .returned (.tuple #[.string (mkS dg), .string (mkS pw), .bool f]) ∧ Below W.heap.size W w') := fun W hW => by
    refine (Tryd.strings_Cut_shaped (mkS sz) ⟨#[112]⟩ W hW (by rw [size_mk]; omega)).mono ?_
    rintro e w' ⟨rfl, n, rfl⟩
    refine ⟨?_, below_drewN (Below.refl _ _) n⟩
    have h' : (ByteArray.mk #[112]).data.toList = [112] := rfl
    rw [mkS_list, h', hdg, hpw, hf]
    rfl
  have cutH2 : Hid (Calls Tryd.prog 34 #[.string (mkS sz), .string ⟨#[112]⟩] w fun e w' => e = .returned (.tuple #[.string (mkS dg), .string (mkS pw), .bool f]) ∧ Below w.heap.size w w') := cutH.out w he.shp
  have zd : (mkS dg).size ≤ 281474976710656 := by rw [size_mk]; omega
  have zp : (mkS pw).size ≤ 281474976710656 := by rw [size_mk]; omega
  have heH : Hid (EnvR w) := he
  clear he cutH hnum hf hdg hpw hsz hneg hl0 hl1 hl2
  by_cases hu : ∃ m, Lib.parseUintB 53 dg = .ok m
  · obtain ⟨m, hm⟩ := hu
    have hmB : m < 9007199254740992 := by
      have := Lib.parseUintB_le hm
      have h53 : (2 : Nat) ^ 53 = 9007199254740992 := by decide
      omega
    have puH : Hid (∀ W : World, Calls Tryd.prog 35 #[.string (mkS dg), .int .i64 10, .int .i64 53] W fun e w' => e = .returned (.tuple #[.int .u64 m, .nilIface]) ∧ Below W.heap.size W w') := fun W => pu_ok (mkS dg) zd m hm W
    by_cases hk : ∃ k, Lib.parseIntB 16 pw = .ok k
    · obtain ⟨k, hk⟩ := hk
      have hkb : -100000 ≤ k ∧ k ≤ 100000 := int_bound hk
      obtain ⟨k1, k2⟩ := hkb
      have piH : Hid (∀ W : World, Calls Tryd.prog 36 #[.string (mkS pw), .int .i64 10, .int .i64 16] W fun e w' => e = .returned (.tuple #[.int .i64 k, .nilIface]) ∧ Below W.heap.size W w') := fun W => pi_ok (mkS pw) zp k hk W
      obtain ⟨R, hR⟩ : ∃ R, rndOf m k = R := ⟨_, rfl⟩
      have ldH : Hid (∀ W : World, Calls Tryd.prog 37 #[.float .f64 (floatOfInt .f64 (m : Int)), .int .i64 k] W fun e w' => e = .returned (.float .f64 R) ∧ w' = W) := fun W => by rw [← hR]; exact ldx_calls m hmB k k1 k2 W
      have btH : Hid (∀ W : World, Calls Tryd.prog 31 #[.float .f64 R] W fun e w' => e = .returned (.int .i64 (R : Int)) ∧ w' = W) := fun W => by rw [← hR]; exact bitsOf_rnd m k W
      have hpair : pairI neg (.ok m) (.ok k) = some (signedOf neg (R : Int)) := by rw [← hR]; rfl
      rw [hm, hk, hpair]
      clear hm hk hR hmB hpair
      cases neg
      · go_enter Tryd.func14, Tryd.ntmps14
        go_wp2_with (first
          | (go_at_call 33; refine (preH.out _).mono ?_; rintro e w' ⟨rfl, he⟩; subst he)
          | (go_at_call 34; refine cutH2.out.mono ?_; rintro e w1 ⟨rfl, hb1⟩)
          | (go_at_call 35; refine (puH.out _).mono ?_; rintro e w2 ⟨rfl, hb2⟩)
          | (go_at_call 36; refine (piH.out _).mono ?_; rintro e w3 ⟨rfl, hb3⟩)
          | (go_at_call 37; refine (ldH.out _).mono ?_; rintro e w4 ⟨rfl, he⟩; subst he)
          | (go_at_call 31; refine (btH.out _).mono ?_; rintro e w5 ⟨rfl, he⟩; subst he))
        go_ret2
        exact ⟨rfl, (hb1.trans (hb2.mono hb1.size)).trans (hb3.mono (hb1.trans (hb2.mono hb1.size)).size)⟩
      · go_enter Tryd.func14, Tryd.ntmps14
        go_wp2_with (first
          | (go_at_call 33; refine (preH.out _).mono ?_; rintro e w' ⟨rfl, he⟩; subst he)
          | (go_at_call 34; refine cutH2.out.mono ?_; rintro e w1 ⟨rfl, hb1⟩)
          | (go_at_call 35; refine (puH.out _).mono ?_; rintro e w2 ⟨rfl, hb2⟩)
          | (go_at_call 36; refine (piH.out _).mono ?_; rintro e w3 ⟨rfl, hb3⟩)
          | (go_at_call 37; refine (ldH.out _).mono ?_; rintro e w4 ⟨rfl, he⟩; subst he)
          | (go_at_call 31; refine (btH.out _).mono ?_; rintro e w5 ⟨rfl, he⟩; subst he))
        go_ret2
        exact ⟨rfl, (hb1.trans (hb2.mono hb1.size)).trans (hb3.mono (hb1.trans (hb2.mono hb1.size)).size)⟩
    · have hkn : ∀ k, Lib.parseIntB 16 pw ≠ .ok k := fun k h => hk ⟨k, h⟩
      have hnone : Hid (pairI neg (Lib.parseUintB 53 dg) (Lib.parseIntB 16 pw) = none) := by
        show _ = _
        rw [hm]
        cases h : Lib.parseIntB 16 pw with
        | ok k => exact absurd h (hkn k)
        | «syntax» => rfl
        | range => rfl
      rw [hnone.out]
      have piH : Hid (∀ W : World, EnvR W → Calls Tryd.prog 36 #[.string (mkS pw), .int .i64 10, .int .i64 16] W fun e w' => ∃ x N, e = .returned (.tuple #[.int .i64 x, .iface 87 (.pointer (some ⟨N, 0, none⟩))]) ∧ Below W.heap.size W w') := fun W hW => pi_bad (mkS pw) zp hkn W hW
      clear hm hk hkn hnone hmB
      go_enter Tryd.func14, Tryd.ntmps14
      go_wp2_with (first
        | (go_at_call 33; refine (preH.out _).mono ?_; rintro e w' ⟨rfl, he⟩; subst he)
        | (go_at_call 34; refine cutH2.out.mono ?_; rintro e w1 ⟨rfl, hb1⟩)
        | (go_at_call 35; refine (puH.out _).mono ?_; rintro e w2 ⟨rfl, hb2⟩)
        | (go_at_call 36; refine (piH.out _ ((heH.out.kept hb1).kept hb2)).mono ?_; rintro e w3 ⟨x, N, rfl, hb3⟩))
      go_ret2
      exact ⟨rfl, (hb1.trans (hb2.mono hb1.size)).trans (hb3.mono (hb1.trans (hb2.mono hb1.size)).size)⟩
  · have hun : ∀ u, Lib.parseUintB 53 dg ≠ .ok u := fun k h => hu ⟨k, h⟩
    have hnone : Hid (pairI neg (Lib.parseUintB 53 dg) (Lib.parseIntB 16 pw) = none) := by
      show _ = _
      cases h : Lib.parseUintB 53 dg with
      | ok k => exact absurd h (hun k)
      | «syntax» => rfl
      | range => rfl
    rw [hnone.out]
    have puH : Hid (∀ W : World, EnvR W → Calls Tryd.prog 35 #[.string (mkS dg), .int .i64 10, .int .i64 53] W fun e w' => ∃ x N, e = .returned (.tuple #[.int .u64 x, .iface 87 (.pointer (some ⟨N, 0, none⟩))]) ∧ Below W.heap.size W w') := fun W hW => pu_bad (mkS dg) zd hun W hW
    clear hu hun hnone
    go_enter Tryd.func14, Tryd.ntmps14
    go_wp2_with (first
      | (go_at_call 33; refine (preH.out _).mono ?_; rintro e w' ⟨rfl, he⟩; subst he)
      | (go_at_call 34; refine cutH2.out.mono ?_; rintro e w1 ⟨rfl, hb1⟩)
      | (go_at_call 35; refine (puH.out _ (heH.out.kept hb1)).mono ?_; rintro e w2 ⟨x, N, rfl, hb2⟩))
    go_ret2
    exact ⟨rfl, hb1.trans (hb2.mono hb1.size)⟩

theorem guess_calls (s : ByteArray) (hs : s.size ≤ 1048576) (w : World) (he : EnvR w) : Calls Tryd.prog 14 #[.string s] w fun e w' => e = .returned (gotI (guessI s.data.toList)) ∧ Below w.heap.size w w' := by
  unfold guessI
  by_cases c1 : s.data.toList = [110, 97, 110]
  · rw [if_pos c1]
    exact guessNan_calls s w (by rw [text_eq, decide_eq_true c1])
  rw [if_neg c1]
  by_cases c2 : s.data.toList = [105, 110, 102]
  · rw [if_pos c2]
    exact guessUp_calls s w (by rw [text_eq, decide_eq_false c1]) (by rw [text_eq, decide_eq_true c2])
  rw [if_neg c2]
  by_cases c3 : s.data.toList = [45, 105, 110, 102]
  · rw [if_pos c3]
    exact guessDown_calls s w (by rw [text_eq, decide_eq_false c1]) (by rw [text_eq, decide_eq_false c2]) (by rw [text_eq, decide_eq_true c3])
  rw [if_neg c3]
  exact guessNum_calls s hs w he (by rw [text_eq, decide_eq_false c1]) (by rw [text_eq, decide_eq_false c2]) (by rw [text_eq, decide_eq_false c3])

set_option maxRecDepth 1000000 in
set_option maxHeartbeats 4000000 in
theorem implRead_calls (s : ByteArray) (hs : s.size ≤ 1048576) (w : World) (he : EnvR w) : Calls Tryd.prog 6 #[.string s] w fun e w' => e = .returned (.tuple #[.int .i64 (ansOf (guessI s.data.toList) s.data.toList).1, .bool (ansOf (guessI s.data.toList) s.data.toList).2]) ∧ Below w.heap.size w w' := by
  have hg := guess_calls s hs w he
  cases hq : guessI s.data.toList with
  | none =>
    rw [hq] at hg
    have gH : Hid (Calls Tryd.prog 14 #[.string s] w fun e w' => e = .returned (.tuple #[.int .i64 0, .bool false]) ∧ Below w.heap.size w w') := hg
    clear hg he hq
    go_enter Tryd.func6, Tryd.ntmps6
    go_wp2_with (go_at_call 14; refine gH.out.mono ?_; rintro e w1 ⟨rfl, hb1⟩)
    go_ret2
    exact ⟨rfl, hb1⟩
  | some x =>
    rw [hq] at hg
    obtain ⟨x1, x2⟩ := guessI_in hq
    have gH : Hid (Calls Tryd.prog 14 #[.string s] w fun e w' => e = .returned (.tuple #[.int .i64 x, .bool true]) ∧ Below w.heap.size w w') := hg
    have showH : Hid (∀ W : World, Below w.heap.size w W → Calls Tryd.prog 7 #[.int .i64 x] W fun e w' => e = .returned (.string (mkS (showL x))) ∧ Below W.heap.size W w') := fun W hW => implShow_calls x W x1 x2 (he.tab.kept hW)
    rw [ans_some]
    clear hg he hq x1 x2
    by_cases hx : showL x = s.data.toList
    · have hx1 : (!(mkS (showL x)).toList == s.toList) = false := by rw [show_test, decide_eq_true hx]; rfl
      rw [if_pos hx]
      clear hx
      go_enter Tryd.func6, Tryd.ntmps6
      go_wp2_with (first | (go_at_call 14; refine gH.out.mono ?_; rintro e w1 ⟨rfl, hb1⟩) | (go_at_call 7; refine (showH.out _ hb1).mono ?_; rintro e w2 ⟨rfl, hb2⟩))
      go_ret2
      exact ⟨rfl, hb1.trans (hb2.mono hb1.size)⟩
    · have hx1 : (!(mkS (showL x)).toList == s.toList) = true := by rw [show_test, decide_eq_false hx]; rfl
      rw [if_neg hx]
      clear hx
      go_enter Tryd.func6, Tryd.ntmps6
      go_wp2_with (first | (go_at_call 14; refine gH.out.mono ?_; rintro e w1 ⟨rfl, hb1⟩) | (go_at_call 7; refine (showH.out _ hb1).mono ?_; rintro e w2 ⟨rfl, hb2⟩))
      go_ret2
      exact ⟨rfl, hb1.trans (hb2.mono hb1.size)⟩
end Go.Proofs.YtjbknbinaegpkaaDoor
