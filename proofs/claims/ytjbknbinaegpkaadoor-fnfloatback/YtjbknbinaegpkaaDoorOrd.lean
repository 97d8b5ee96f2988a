/- laws.FnFloatOrder: the walk. -/
import Derived.Test.YtjbknbinaegpkaaDoorDrb
import Derived.Test.YtjbknbinaegpkaaDoorCmp
import Derived.Test.YtjbknbinaegpkaaDoorImg
namespace Go.Proofs.YtjbknbinaegpkaaDoor
set_option linter.unusedVariables false
open Go.ChangeShapes Go.WideShapes Go.ChangeAt Go.RowKit

theorem show_power (a : Int) (k : Nat) (h1 : openK a = 1023 + k) (h2 : openF a = 0) (h3 : ¬ a < 0) (hk : k < 10) : showL a = [49, 112, UInt8.ofNat (48 + k)] := by
  have c2 : openC a ≠ 2 := by unfold openC; rw [if_neg (by omega)]; decide
  have c1 : openC a ≠ 1 := by unfold openC; rw [if_neg (by omega)]; decide
  have hM : openM a = 4503599627370496 := by unfold openM; rw [if_neg (by omega), if_neg (by omega), h2]; rfl
  have hE : openE a = (k : Int) - 52 := by unfold openE; rw [if_neg (by omega), if_neg (by omega), h1]; omega
  have hodd : oddL a = (1, (k : Int)) := by
    unfold oddL
    rw [if_neg (by omega), hM, hE]
    have := strip_low 52 4503599627370496 ((k : Int) - 52) (by decide) (by decide)
    have e : (4503599627370496 : Int).toNat = 4503599627370496 := rfl
    rw [e, this]
    have e2 : 4503599627370496 / 2 ^ 52 = 1 := by decide
    rw [e2]
    congr 1
    omega
  rw [show_odd c1 c2, hodd]
  have hs : sgn a = [] := by unfold sgn; rw [if_neg h3]
  have hd : Lib.decDigits 1 = [49] := by rw [Lib.decDigits, dif_pos (by omega)]; rfl
  have hi : Lib.itoa (k : Int) = [UInt8.ofNat (48 + k)] := by rw [Lib.itoa, if_neg (by omega), Int.toNat_natCast, Lib.decDigits, dif_pos hk]
  rw [hs, hd, hi]
  rfl
theorem read_shown (a : Int) (h1 : -9223372036854775808 ≤ a) (h2 : a < 9223372036854775808) (hc : openC a ≠ 2) : ansOf (guessI (showL a)) (showL a) = (a, true) := by
  rw [guessI_show a h1 h2]
  unfold canon
  rw [if_neg hc, ans_some, if_pos rfl]
theorem show_one : showL 4607182418800017408 = [49, 112, 48] := show_power 4607182418800017408 0 (by decide) (by decide) (by decide) (by decide)
theorem show_two : showL 4611686018427387904 = [49, 112, 49] := show_power 4611686018427387904 1 (by decide) (by decide) (by decide) (by decide)
theorem one_calls (w : World) (he : EnvR w) : Calls Tryd.prog 6 #[.string ⟨#[49, 112, 48]⟩] w fun e w' => e = .returned (.tuple #[.int .i64 4607182418800017408, .bool true]) ∧ Below w.heap.size w w' := by
  have h := implRead_calls ⟨#[49, 112, 48]⟩ (by decide) w he
  have e : (ByteArray.mk #[49, 112, 48]).data.toList = showL 4607182418800017408 := show_one.symm
  rw [e, read_shown _ (by decide) (by decide) (by decide)] at h
  exact h
theorem two_calls (w : World) (he : EnvR w) : Calls Tryd.prog 6 #[.string ⟨#[49, 112, 49]⟩] w fun e w' => e = .returned (.tuple #[.int .i64 4611686018427387904, .bool true]) ∧ Below w.heap.size w w' := by
  have h := implRead_calls ⟨#[49, 112, 49]⟩ (by decide) w he
  have e : (ByteArray.mk #[49, 112, 49]).data.toList = showL 4611686018427387904 := show_two.symm
  rw [e, read_shown _ (by decide) (by decide) (by decide)] at h
  exact h
theorem big_calls (C : Option Addr) (len cap : Nat) (w : World) : Calls Tryd.prog 5 #[.slice C len cap] w fun e w' => e = .returned (.bool (decide ((1048576 : Int) < len))) ∧ w' = w := by
  go_enter Tryd.func5, Tryd.ntmps5
  go_wp2
  go_ret
  exact ⟨rfl, rfl⟩

/-- One comparison. -/
def Cm (a b n r : Int) : Prop := ∀ w : World, Calls Tryd.prog 10 #[.int .i64 a, .int .i64 b, .int .i64 n] w fun e w' => e = .returned (.int .i64 r) ∧ w' = w
theorem cm_of {a b : Int} (n : Int) (ha : I64 a) (hb : I64 b) {r : Int} (h : cmpVal a b n = r) : Cm a b n r := fun w => by
  subst h
  exact implCmp a b n ha.1 ha.2 hb.1 hb.2 w
theorem cmp_nan {a b : Int} (h : isNo a ∨ isNo b) (n : Int) : cmpVal a b n = n := by unfold cmpVal; rw [if_pos h]
theorem cmp_self {a : Int} (h : ¬ isNo a) (n : Int) : cmpVal a a n = 0 := by unfold cmpVal; rw [if_neg (by simpa using h), if_neg (by omega), if_neg (by omega)]
theorem cmp_lt {a b : Int} (h : ¬ (isNo a ∨ isNo b)) (hl : key a < key b) (n : Int) : cmpVal a b n = -1 ∧ cmpVal b a n = 1 := by
  unfold cmpVal
  rw [if_neg h, if_pos hl, if_neg (fun x => h x.symm), if_neg (by omega), if_pos hl]
  exact ⟨rfl, rfl⟩
theorem cmp_eq {a b : Int} (h : ¬ (isNo a ∨ isNo b)) (hl : key a = key b) (n : Int) : cmpVal a b n = 0 := by
  unfold cmpVal
  rw [if_neg h, if_neg (by omega), if_neg (by omega)]

/-- The rest of the walk, by the answers of the comparisons. -/
structure Ends (a b : Int) (c d e f g h : Int) : Prop where
  c : Cm a b 1 c
  d : Cm a b (-1) d
  e : Cm b a 1 e
  f : Cm b a (-1) f
  g : Cm a a 1 g
  h : Cm b b 1 h

theorem ends_of (a b : Int) (ha : I64 a) (hb : I64 b) : (Ends a b 1 (-1) 1 (-1) 1 0 ∨ Ends a b 1 (-1) 1 (-1) 0 1 ∨ Ends a b 1 (-1) 1 (-1) 1 1) ∨ (Ends a b (-1) (-1) 1 1 0 0 ∨ Ends a b 1 1 (-1) (-1) 0 0 ∨ Ends a b 0 0 0 0 0 0) := by
  by_cases na : isNo a
  · by_cases nb : isNo b
    · exact .inl (.inr (.inr ⟨cm_of _ ha hb (cmp_nan (.inl na) _), cm_of _ ha hb (cmp_nan (.inl na) _), cm_of _ hb ha (cmp_nan (.inr na) _), cm_of _ hb ha (cmp_nan (.inr na) _), cm_of _ ha ha (cmp_nan (.inl na) _), cm_of _ hb hb (cmp_nan (.inl nb) _)⟩))
    · exact .inl (.inl ⟨cm_of _ ha hb (cmp_nan (.inl na) _), cm_of _ ha hb (cmp_nan (.inl na) _), cm_of _ hb ha (cmp_nan (.inr na) _), cm_of _ hb ha (cmp_nan (.inr na) _), cm_of _ ha ha (cmp_nan (.inl na) _), cm_of _ hb hb (cmp_self nb _)⟩)
  · by_cases nb : isNo b
    · exact .inl (.inr (.inl ⟨cm_of _ ha hb (cmp_nan (.inr nb) _), cm_of _ ha hb (cmp_nan (.inr nb) _), cm_of _ hb ha (cmp_nan (.inl nb) _), cm_of _ hb ha (cmp_nan (.inl nb) _), cm_of _ ha ha (cmp_self na _), cm_of _ hb hb (cmp_nan (.inl nb) _)⟩))
    · have hn : ¬ (isNo a ∨ isNo b) := fun x => x.elim na nb
      have hn2 : ¬ (isNo b ∨ isNo a) := fun x => x.elim nb na
      refine .inr ?_
      rcases Int.lt_trichotomy (key a) (key b) with hl | hl | hl
      · exact .inl ⟨cm_of _ ha hb (cmp_lt hn hl _).1, cm_of _ ha hb (cmp_lt hn hl _).1, cm_of _ hb ha (cmp_lt hn hl _).2, cm_of _ hb ha (cmp_lt hn hl _).2, cm_of _ ha ha (cmp_self na _), cm_of _ hb hb (cmp_self nb _)⟩
      · exact .inr (.inr ⟨cm_of _ ha hb (cmp_eq hn hl _), cm_of _ ha hb (cmp_eq hn hl _), cm_of _ hb ha (cmp_eq hn2 hl.symm _), cm_of _ hb ha (cmp_eq hn2 hl.symm _), cm_of _ ha ha (cmp_self na _), cm_of _ hb hb (cmp_self nb _)⟩)
      · exact .inr (.inl ⟨cm_of _ ha hb (cmp_lt hn2 hl _).2, cm_of _ ha hb (cmp_lt hn2 hl _).2, cm_of _ hb ha (cmp_lt hn2 hl _).1, cm_of _ hb ha (cmp_lt hn2 hl _).1, cm_of _ ha ha (cmp_self na _), cm_of _ hb hb (cmp_self nb _)⟩)

set_option maxRecDepth 1000000 in
set_option maxHeartbeats 16000000 in
theorem order_walk (C : Option Addr) (len cap : Nat) (w : World) (hc : Code C len w) (he : EnvR w) :
    Calls Tryd.prog 4 #[.slice C len cap] w fun e w' => e = .returned (.bool true) ∧ Below w.heap.size w w' := by
  by_cases hbig : (1048576 : Int) < len
  · have bigH : Hid (∀ w, Calls Tryd.prog 5 #[.slice C len cap] w fun e w' => e = .returned (.bool true) ∧ w' = w) := fun w => by
      have := big_calls C len cap w
      rw [decide_eq_true hbig] at this
      exact this
    clear hc he
    go_enter Tryd.func4, Tryd.ntmps4
    go_wp2_with (go_at_call 5; refine (bigH.out _).mono ?_; rintro e w' ⟨rfl, he⟩; subst he)
    go_ret
    exact ⟨rfl, Below.refl _ _⟩
  · have bigH : Hid (∀ w, Calls Tryd.prog 5 #[.slice C len cap] w fun e w' => e = .returned (.bool false) ∧ w' = w) := fun w => by
      have := big_calls C len cap w
      rw [decide_eq_false hbig] at this
      exact this
    have oneH : Hid (Calls Tryd.prog 6 #[.string ⟨#[49, 112, 48]⟩] w fun e w' => e = .returned (.tuple #[.int .i64 4607182418800017408, .bool true]) ∧ Below w.heap.size w w') := one_calls w he
    have twoH : Hid (∀ W : World, Below w.heap.size w W → Calls Tryd.prog 6 #[.string ⟨#[49, 112, 49]⟩] W fun e w' => e = .returned (.tuple #[.int .i64 4611686018427387904, .bool true]) ∧ Below w.heap.size w w') := fun W hW => (two_calls W (he.kept hW)).mono fun e w' ⟨q, hb⟩ => ⟨q, hW.trans (hb.mono hW.size)⟩
    have cmp12 : Hid (Cm 4607182418800017408 4611686018427387904 1 (-1)) := cm_of 1 (by unfold I64; omega) (by unfold I64; omega) (by unfold cmpVal; decide)
    have drawH : Hid (∀ W : World, Below w.heap.size w W → Calls Tryd.prog 13 #[.slice C len cap] W fun e w' => ∃ a b n : Int, I64 a ∧ I64 b ∧ e = .returned (.tuple #[.int .i64 a, .int .i64 b, .int .i64 n]) ∧ Below w.heap.size w w') := fun W hW => (drawCmp_calls C len cap W (by omega) (hc.later hW)).mono fun e w' ⟨a, b, n, q, r, s, hb⟩ => ⟨a, b, n, q, r, s, hW.trans (hb.mono hW.size)⟩
    clear hc he
    go_enter Tryd.func4, Tryd.ntmps4
    go_wp2_with (first
      | (go_at_call 5; refine (bigH.out _).mono ?_; rintro e w' ⟨rfl, he⟩; subst he)
      | (go_at_call 6; fail))
    refine oneH.out.mono ?_
    rintro e w1 ⟨rfl, hb1⟩
    go_wp2_with (first | (go_at_call 6; fail))
    refine (twoH.out _ hb1).mono ?_
    rintro e w2 ⟨rfl, hb2⟩
    go_wp2_with (first
      | (go_at_call 10; refine (cmp12.out _).mono ?_; rintro e w' ⟨rfl, he⟩; subst he)
      | (go_at_call 13; fail))
    refine (drawH.out _ (by assumption)).mono ?_
    rintro e w3 ⟨a, b, n, ha, hb, rfl, hb3⟩
    have hends := ends_of a b ha hb
    clear ha hb bigH oneH twoH cmp12 drawH
    rcases hends with (⟨c, d, e1, f, g, h⟩ | ⟨c, d, e1, f, g, h⟩ | ⟨c, d, e1, f, g, h⟩) | ⟨c, d, e1, f, g, h⟩ | ⟨c, d, e1, f, g, h⟩ | ⟨c, d, e1, f, g, h⟩
    · go_wp2_with (go_at_call 10; fail)
      refine (c _).mono ?_
      rintro e w' ⟨rfl, he⟩
      subst he
      go_wp2_with (go_at_call 10; fail)
      refine (d _).mono ?_
      rintro e w' ⟨rfl, he⟩
      subst he
      go_wp2_with (go_at_call 10; fail)
      refine (e1 _).mono ?_
      rintro e w' ⟨rfl, he⟩
      subst he
      go_wp2_with (go_at_call 10; fail)
      refine (f _).mono ?_
      rintro e w' ⟨rfl, he⟩
      subst he
      go_wp2_with (go_at_call 10; fail)
      refine (g _).mono ?_
      rintro e w' ⟨rfl, he⟩
      subst he
      go_wp2
      go_ret
      exact ⟨rfl, by assumption⟩
    · go_wp2_with (go_at_call 10; fail)
      refine (c _).mono ?_
      rintro e w' ⟨rfl, he⟩
      subst he
      go_wp2_with (go_at_call 10; fail)
      refine (d _).mono ?_
      rintro e w' ⟨rfl, he⟩
      subst he
      go_wp2_with (go_at_call 10; fail)
      refine (e1 _).mono ?_
      rintro e w' ⟨rfl, he⟩
      subst he
      go_wp2_with (go_at_call 10; fail)
      refine (f _).mono ?_
      rintro e w' ⟨rfl, he⟩
      subst he
      go_wp2_with (go_at_call 10; fail)
      refine (g _).mono ?_
      rintro e w' ⟨rfl, he⟩
      subst he
      go_wp2_with (go_at_call 10; fail)
      refine (h _).mono ?_
      rintro e w' ⟨rfl, he⟩
      subst he
      go_wp2
      go_ret
      exact ⟨rfl, by assumption⟩
    · go_wp2_with (go_at_call 10; fail)
      refine (c _).mono ?_
      rintro e w' ⟨rfl, he⟩
      subst he
      go_wp2_with (go_at_call 10; fail)
      refine (d _).mono ?_
      rintro e w' ⟨rfl, he⟩
      subst he
      go_wp2_with (go_at_call 10; fail)
      refine (e1 _).mono ?_
      rintro e w' ⟨rfl, he⟩
      subst he
      go_wp2_with (go_at_call 10; fail)
      refine (f _).mono ?_
      rintro e w' ⟨rfl, he⟩
      subst he
      go_wp2_with (go_at_call 10; fail)
      refine (g _).mono ?_
      rintro e w' ⟨rfl, he⟩
      subst he
      go_wp2
      go_ret
      exact ⟨rfl, by assumption⟩
    · go_wp2_with (go_at_call 10; fail)
      refine (c _).mono ?_
      rintro e w' ⟨rfl, he⟩
      subst he
      go_wp2_with (go_at_call 10; fail)
      refine (d _).mono ?_
      rintro e w' ⟨rfl, he⟩
      subst he
      go_wp2_with (go_at_call 10; fail)
      refine (e1 _).mono ?_
      rintro e w' ⟨rfl, he⟩
      subst he
      go_wp2_with (go_at_call 10; fail)
      refine (g _).mono ?_
      rintro e w' ⟨rfl, he⟩
      subst he
      go_wp2
      go_ret
      exact ⟨rfl, by assumption⟩
    · go_wp2_with (go_at_call 10; fail)
      refine (c _).mono ?_
      rintro e w' ⟨rfl, he⟩
      subst he
      go_wp2_with (go_at_call 10; fail)
      refine (d _).mono ?_
      rintro e w' ⟨rfl, he⟩
      subst he
      go_wp2_with (go_at_call 10; fail)
      refine (e1 _).mono ?_
      rintro e w' ⟨rfl, he⟩
      subst he
      go_wp2_with (go_at_call 10; fail)
      refine (g _).mono ?_
      rintro e w' ⟨rfl, he⟩
      subst he
      go_wp2
      go_ret
      exact ⟨rfl, by assumption⟩
    · go_wp2_with (go_at_call 10; fail)
      refine (c _).mono ?_
      rintro e w' ⟨rfl, he⟩
      subst he
      go_wp2_with (go_at_call 10; fail)
      refine (d _).mono ?_
      rintro e w' ⟨rfl, he⟩
      subst he
      go_wp2_with (go_at_call 10; fail)
      refine (e1 _).mono ?_
      rintro e w' ⟨rfl, he⟩
      subst he
      go_wp2_with (go_at_call 10; fail)
      refine (g _).mono ?_
      rintro e w' ⟨rfl, he⟩
      subst he
      go_wp2
      go_ret
      exact ⟨rfl, by assumption⟩
end Go.Proofs.YtjbknbinaegpkaaDoor
