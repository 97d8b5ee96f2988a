/- Of a float's text both readers guess that float. -/
import Derived.Test.YtjbknbinaegpkaaDoorGs
namespace Go.Proofs.YtjbknbinaegpkaaDoor
set_option linter.unusedVariables false
open Go.ChangeShapes Go.WideShapes Go.ChangeAt Go.RowKit
open Ieee

theorem foldR_shift : ∀ (l : List UInt8) (lim i : Nat) (n : Int), foldR (lim + 1) (i + 1) n l = foldR lim i n l := by
  intro l
  induction l with
  | nil => intro lim i n; rfl
  | cons c l ih =>
    intro lim i n
    rw [foldR, foldR, ih]
    simp only [Nat.add_lt_add_iff_right]
theorem readW_itoa (k : Int) (h1 : -2000 ≤ k) (h2 : k ≤ 2000) : readW 16 (Lib.itoa k) = k := by
  unfold Lib.itoa
  split
  · rename_i hn
    unfold readW
    rw [if_pos (by rfl), foldR_minus, foldR_shift]
    rcases foldR_dec 15 15 k.natAbs (by have : (10 : Nat) ^ 15 = 1000000000000000 := by decide
                                        omega) (Nat.le_refl _) (by omega) with h | h
    · rw [h.2, wrap64_id _ (by omega) (by omega)]; omega
    · omega
  · rename_i hn
    rw [readW_dec 16 k.toNat (by omega) (by have : (10 : Nat) ^ 16 = 10000000000000000 := by decide
                                            omega) (by omega)]
    omega
theorem parseI_itoa (k : Int) (h1 : -2000 ≤ k) (h2 : k ≤ 2000) : Lib.parseIntB 16 (Lib.itoa k) = .ok k := by
  unfold Lib.itoa
  split
  · rename_i hn
    rw [Lib.parseIntB_minus, parseB_dec 16 _ (by omega) (by have : (2 : Nat) ^ 16 = 65536 := by decide
                                                            omega)]
    have h15 : (2 : Nat) ^ (16 - 1) = 32768 := by decide
    simp only [Lib.signedC, h15]
    rw [if_neg (by omega)]
    congr 1; omega
  · rename_i hn
    obtain ⟨c, r, he, g1, g2⟩ := head_dec k.toNat
    have hp := parseB_dec 16 k.toNat (by omega) (by have : (2 : Nat) ^ 16 = 65536 := by decide
                                                    omega)
    rw [he] at hp ⊢
    rw [Lib.parseIntB_plain 16 c r (by omega) (by omega), hp]
    have h15 : (2 : Nat) ^ (16 - 1) = 32768 := by decide
    simp only [Lib.signlessC, h15]
    rw [if_neg (by omega)]
    congr 1; omega

theorem pos_append : ∀ (d r : List UInt8), (∀ c ∈ d, c ≠ 112) → posP (d ++ 112 :: r) = d.length := by
  intro d
  induction d with
  | nil => intro r _; simp [posP]
  | cons c d ih =>
    intro r h
    rw [List.cons_append, posP, if_neg (h c (by simp)), ih r (fun x hx => h x (by simp [hx]))]
    simp
theorem index_append : ∀ (d r : List UInt8), (∀ c ∈ d, c ≠ 112) → Lib.index (d ++ 112 :: r) [112] = d.length := by
  intro d
  induction d with
  | nil => intro r _; simp [Lib.index]
  | cons c d ih =>
    intro r h
    have hc := h c (by simp)
    rw [List.cons_append, Lib.index, ih r (fun x hx => h x (by simp [hx]))]
    have : (([112] : List UInt8).isPrefixOf (c :: (d ++ 112 :: r))) = false := by
      simp [List.isPrefixOf]; exact fun h => hc h.symm
    rw [this]
    have h2 : (((d.length : Nat) : Int) == -1) = false := by simp
    simp only [Bool.false_eq_true, if_false, h2, List.length_cons]
    push_cast; rfl
theorem cut_append (d r : List UInt8) (h : ∀ c ∈ d, c ≠ 112) : Lib.cut (d ++ 112 :: r) [112] = (d, r, true) := by
  unfold Lib.cut
  rw [index_append d r h, if_pos (by omega)]
  simp

theorem dec_not (u : Nat) : ∀ c ∈ Lib.decDigits u, c ≠ 112 := by
  intro c hc h
  have := dec_digit u u (Nat.le_refl _) c hc
  subst h
  revert this; decide

/-- The odd part and the power of a float are that float. -/
theorem strip_scale : ∀ (n m : Nat) (e : Int), m ≤ n → ∃ j : Nat, m = (strip m e).1 * 2 ^ j ∧ (strip m e).2 = e + j := by
  intro n
  induction n with
  | zero =>
    intro m e h
    refine ⟨0, ?_⟩
    obtain rfl : m = 0 := by omega
    rw [strip, dif_neg (by simp)]; simp
  | succ n ih =>
    intro m e h
    by_cases hev : m % 2 = 0 ∧ m ≠ 0
    · obtain ⟨j, h1, h2⟩ := ih (m / 2) (e + 1) (by omega)
      refine ⟨j + 1, ?_⟩
      rw [strip_even hev.1 hev.2]
      refine ⟨?_, by rw [h2]; push_cast; omega⟩
      rw [Nat.pow_succ, ← Nat.mul_assoc, ← h1]; omega
    · refine ⟨0, ?_⟩
      rw [strip, dif_neg hev]; simp
theorem rnd_odd (a : Int) (hc : openK a ≠ 2047) : rndOf (oddL a).1 (oddL a).2 = rung a := by
  have hr := rung_parts a
  have hK : 0 ≤ openK a ∧ openK a < 2048 := by unfold openK; omega
  have hF : 0 ≤ openF a ∧ openF a < 4503599627370496 := by unfold openF; omega
  have hself := rnd_self (rung a) (by omega)
  have hs : (sig (rung a) : Int) = openM a := by
    unfold sig openM
    rw [if_neg hc]
    by_cases h0 : openK a = 0
    · rw [if_pos h0, if_pos (by omega)]; omega
    · rw [if_neg h0, if_neg (by omega)]; omega
  have hx : -1074 + ((ex (rung a) : Nat) : Int) = openE a := by
    unfold ex openE
    rw [if_neg hc]
    by_cases h0 : openK a = 0
    · rw [if_pos h0]; omega
    · rw [if_neg h0]; omega
  unfold oddL
  by_cases hz : openM a = 0
  · rw [if_pos hz]
    have : sig (rung a) = 0 := by omega
    rw [this] at hself
    rw [← hself]
    unfold rndOf
    simp
  · rw [if_neg hz]
    obtain ⟨j, h1, h2⟩ := strip_scale (openM a).toNat (openM a).toNat (openE a) (Nat.le_refl _)
    rw [h2, ← rnd_scale j, ← h1, ← hself]
    congr 1
    · omega
    · omega
theorem signed_rung (a : Int) (h1 : -9223372036854775808 ≤ a) (h2 : a < 9223372036854775808) : signedOf (decide (a < 0)) ((rung a : Nat) : Int) = a := by
  rw [signed_word _ _ (rung_lt a), ← word_of a h1 h2]
  have : IntKind.u64.wrap a = a % 18446744073709551616 := by
    simp only [IntKind.wrap, IntKind.bits, IntKind.signed]
    simp
  rw [this]
  unfold wrap64
  omega

/-- The float that a float's text is read as: all that is no number is one. -/
def canon (a : Int) : Int := if openC a = 2 then 9221120237041090560 else a

theorem odd_two (a : Int) : ((oddL a).1 < 9007199254740992) ∧ -2000 ≤ (oddL a).2 ∧ (oddL a).2 ≤ 2000 := by
  obtain ⟨b1, b2⟩ := openM_bound a
  obtain ⟨b3, b4⟩ := openE_bound a
  unfold oddL
  split
  · simp
  · rename_i hz
    obtain ⟨j, h1, h2⟩ := strip_scale (openM a).toNat (openM a).toNat (openE a) (Nat.le_refl _)
    have hle := (strip_le _ (openM a).toNat (openE a) (Nat.le_refl _)).1
    have hj : j < 53 := by
      rcases Nat.lt_or_ge j 53 with h | h
      · exact h
      · have h5 : 2 ^ 53 ≤ 2 ^ j := Nat.pow_le_pow_right (by decide) h
        have h6 : 0 < (strip (openM a).toNat (openE a)).1 := by
          rcases Nat.eq_zero_or_pos (strip (openM a).toNat (openE a)).1 with h0 | h0
          · rw [h0] at h1; omega
          · exact h0
        have h7 : 2 ^ j ≤ (strip (openM a).toNat (openE a)).1 * 2 ^ j := Nat.le_mul_of_pos_left _ h6
        have h53 : (2 : Nat) ^ 53 = 9007199254740992 := by decide
        omega
    exact ⟨by omega, by omega, by omega⟩

theorem minus_sgn (a : Int) (t : List UInt8) (ht : t.head? ≠ some 45) : minusOf (sgn a ++ t) = decide (a < 0) ∧ sizeOfT (sgn a ++ t) = t := by
  unfold sizeOfT minusOf sgn
  by_cases h : a < 0
  · simp [h]
  · simp [h, ht]
theorem head_num (m : Nat) (r : List UInt8) : (Lib.decDigits m ++ r).head? ≠ some 45 ∧ (Lib.decDigits m ++ r).head? ≠ some 110 ∧ (Lib.decDigits m ++ r).head? ≠ some 105 := by
  obtain ⟨c, q, he, h1, h2⟩ := head_dec m
  rw [he]
  refine ⟨?_, ?_, ?_⟩ <;> (intro h; simp at h; subst h; revert h1 h2; decide)

theorem guessS_show (a : Int) (h1 : -9223372036854775808 ≤ a) (h2 : a < 9223372036854775808) : guessS (showL a) = some (canon a) := by
  unfold canon
  by_cases c2 : openC a = 2
  · have hr : showL a = [110, 97, 110] := by unfold showL; rw [if_pos c2]
    rw [hr, if_pos c2]; rfl
  rw [if_neg c2]
  by_cases c1 : openC a = 1
  · have hr : showL a = sgn a ++ [105, 110, 102] := by unfold showL; rw [if_neg c2, if_pos c1]
    have hs := (openC_inf a).1 c1
    have hb := signed_rung a h1 h2
    rw [hs] at hb
    obtain ⟨e1, e2⟩ := minus_sgn a [105, 110, 102] (by decide)
    have hl : ¬ 40 < (sgn a ++ [105, 110, 102]).length := by unfold sgn; split <;> simp
    rw [hr, guessS, if_neg hl, e1, e2]
    show some (signedOf (decide (a < 0)) 9218868437227405312) = some a
    rw [← hb]
    congr 1
    exact congrArg (fun s => signedOf s 9218868437227405312) (by rw [hb])
  · have hr := show_odd c1 c2
    have hK := openC_zero c1 c2
    obtain ⟨b1, b2, b3⟩ := odd_two a
    have hrnd := rnd_odd a hK
    have hb := signed_rung a h1 h2
    generalize (oddL a).1 = m at *
    generalize (oddL a).2 = k at *
    have hr' : showL a = sgn a ++ (Lib.decDigits m ++ 112 :: Lib.itoa k) := by rw [hr]; simp
    obtain ⟨n1, n2, n3⟩ := head_num m (112 :: Lib.itoa k)
    obtain ⟨e1, e2⟩ := minus_sgn a _ n1
    have hl : ¬ 40 < (sgn a ++ (Lib.decDigits m ++ 112 :: Lib.itoa k)).length := by
      have l1 : (sgn a).length ≤ 1 := by unfold sgn; split <;> simp
      have l2 : (Lib.decDigits m).length ≤ 16 := dec_len 15 m (by have : (10 : Nat) ^ (15 + 1) = 10000000000000000 := by decide
                                                                  omega)
      have l3 : (Lib.itoa k).length ≤ 16 := by
        unfold Lib.itoa
        have h4 : (10 : Nat) ^ (3 + 1) = 10000 := by decide
        split
        · have := dec_len 3 k.natAbs (by omega)
          simp; omega
        · have := dec_len 3 k.toNat (by omega)
          omega
      simp; omega
    rw [hr', guessS, if_neg hl, e1, e2]
    have x1 : ¬ Lib.decDigits m ++ 112 :: Lib.itoa k = [110, 97, 110] := fun h => n2 (by rw [h]; rfl)
    have x2 : ¬ Lib.decDigits m ++ 112 :: Lib.itoa k = [105, 110, 102] := fun h => n3 (by rw [h]; rfl)
    rw [guessT, if_neg x1, if_neg x2, numS, pos_append _ _ (dec_not m)]
    have y1 : (Lib.decDigits m ++ 112 :: Lib.itoa k).take (Lib.decDigits m).length = Lib.decDigits m := by simp
    have y2 : (Lib.decDigits m ++ 112 :: Lib.itoa k).drop ((Lib.decDigits m).length + 1) = Lib.itoa k := by
      rw [← List.drop_drop, List.drop_left]; rfl
    have r1 : readW 20 (Lib.decDigits m) = m := readW_dec 20 m (by omega) (by have : (10 : Nat) ^ 20 = 100000000000000000000 := by decide
                                                                              omega) b1
    rw [y1, y2, r1, readW_itoa k b2 b3, if_neg (by simp), if_neg (by omega)]
    rw [Int.toNat_natCast, hrnd, hb]

theorem prefix_sgn (a : Int) (t : List UInt8) (ht : t.head? ≠ some 45) : Lib.hasPrefix (sgn a ++ t) [45] = decide (a < 0) ∧ Lib.trimPrefix (sgn a ++ t) [45] = t := by
  have hp : Lib.hasPrefix (sgn a ++ t) [45] = decide (a < 0) := by
    unfold Lib.hasPrefix sgn
    by_cases h : a < 0
    · simp [h, List.isPrefixOf]
    · cases t with
      | nil => simp [h]
      | cons c r =>
        have hc : c ≠ 45 := fun e => ht (by rw [e]; rfl)
        simp [h, List.isPrefixOf]
        exact fun e => hc e.symm
  refine ⟨hp, ?_⟩
  unfold Lib.trimPrefix
  rw [hp]
  unfold sgn
  by_cases h : a < 0
  · simp [h]
  · simp [h]

theorem guessI_show (a : Int) (h1 : -9223372036854775808 ≤ a) (h2 : a < 9223372036854775808) : guessI (showL a) = some (canon a) := by
  unfold canon
  by_cases c2 : openC a = 2
  · have hr : showL a = [110, 97, 110] := by unfold showL; rw [if_pos c2]
    rw [hr, if_pos c2]; rfl
  rw [if_neg c2]
  by_cases c1 : openC a = 1
  · have hr : showL a = sgn a ++ [105, 110, 102] := by unfold showL; rw [if_neg c2, if_pos c1]
    have hs := (openC_inf a).1 c1
    unfold rung at hs
    rw [hr]
    unfold sgn
    by_cases h : a < 0
    · have ha : a = -4503599627370496 := by omega
      rw [if_pos h, ha]; rfl
    · have ha : a = 9218868437227405312 := by omega
      rw [if_neg h, ha]; rfl
  · have hr := show_odd c1 c2
    have hK := openC_zero c1 c2
    obtain ⟨b1, b2, b3⟩ := odd_two a
    have hrnd := rnd_odd a hK
    have hb := signed_rung a h1 h2
    generalize (oddL a).1 = m at *
    generalize (oddL a).2 = k at *
    have hr' : showL a = sgn a ++ (Lib.decDigits m ++ 112 :: Lib.itoa k) := by rw [hr]; simp
    obtain ⟨n1, n2, n3⟩ := head_num m (112 :: Lib.itoa k)
    obtain ⟨e1, e2⟩ := prefix_sgn a _ n1
    obtain ⟨c, q, he, g1, g2⟩ := head_dec m
    have x1 : ¬ sgn a ++ (Lib.decDigits m ++ 112 :: Lib.itoa k) = [110, 97, 110] := by
      unfold sgn
      split
      · simp
      · intro h; exact n2 (by rw [List.nil_append] at h; rw [h]; rfl)
    have x2 : ¬ sgn a ++ (Lib.decDigits m ++ 112 :: Lib.itoa k) = [105, 110, 102] := by
      unfold sgn
      split
      · simp
      · intro h; exact n3 (by rw [List.nil_append] at h; rw [h]; rfl)
    have x3 : ¬ sgn a ++ (Lib.decDigits m ++ 112 :: Lib.itoa k) = [45, 105, 110, 102] := by
      unfold sgn
      split
      · intro h
        have h' : Lib.decDigits m ++ 112 :: Lib.itoa k = [105, 110, 102] := by simpa using h
        exact n3 (by rw [h']; rfl)
      · intro h; exact n1 (by rw [List.nil_append] at h; rw [h]; rfl)
    rw [hr', guessI, if_neg x1, if_neg x2, if_neg x3, numI, e1, e2, cut_append _ _ (dec_not m)]
    have p1 : Lib.parseUintB 53 (Lib.decDigits m) = .ok m := parseB_dec 53 m (by omega) (by have : (2 : Nat) ^ 53 = 9007199254740992 := by decide
                                                                                            omega)
    rw [p1, parseI_itoa k b2 b3]
    show some (signedOf (decide (a < 0)) ((rndOf m k : Nat) : Int)) = some a
    rw [hrnd, hb]

theorem signed_in (s : Bool) (r : Nat) (h : r < 9223372036854775808) : -9223372036854775808 ≤ signedOf s (r : Int) ∧ signedOf s (r : Int) < 9223372036854775808 := by
  rw [signed_word s r h]; exact wrap64_in _
theorem rnd_lt (m : Nat) (e : Int) : rndOf m e < 9223372036854775808 := by have := rnd_le m e; omega
theorem guessS_in {l : List UInt8} {x : Int} (h : guessS l = some x) : -9223372036854775808 ≤ x ∧ x < 9223372036854775808 := by
  unfold guessS guessT numS at h
  split at h
  · cases h
  · split at h
    · injection h with h; subst h; decide
    · split at h
      · injection h with h; subst h; exact signed_in _ 9218868437227405312 (by decide)
      · split at h
        · cases h
        · split at h
          · cases h
          · injection h with h; subst h; exact signed_in _ _ (rnd_lt _ _)
theorem guessI_in {l : List UInt8} {x : Int} (h : guessI l = some x) : -9223372036854775808 ≤ x ∧ x < 9223372036854775808 := by
  unfold guessI numI pairI at h
  split at h
  · injection h with h; subst h; decide
  · split at h
    · injection h with h; subst h; decide
    · split at h
      · injection h with h; subst h; decide
      · split at h
        · injection h with h; subst h; exact signed_in _ _ (rnd_lt _ _)
        · cases h

/-- THE TWO READERS ANSWER ALIKE. -/
theorem answers_alike (l : List UInt8) : ansOf (guessS l) l = ansOf (guessI l) l := by
  by_cases hx : ∃ a : Int, (-9223372036854775808 ≤ a ∧ a < 9223372036854775808) ∧ showL a = l
  · obtain ⟨a, ⟨h1, h2⟩, rfl⟩ := hx
    rw [guessS_show a h1 h2, guessI_show a h1 h2]
  · have hS : ansOf (guessS l) l = (0, false) := by
      cases h : guessS l with
      | none => rfl
      | some x => exact if_neg fun e => hx ⟨x, guessS_in h, e⟩
    have hI : ansOf (guessI l) l = (0, false) := by
      cases h : guessI l with
      | none => rfl
      | some x => exact if_neg fun e => hx ⟨x, guessI_in h, e⟩
    rw [hS, hI]
end Go.Proofs.YtjbknbinaegpkaaDoor
