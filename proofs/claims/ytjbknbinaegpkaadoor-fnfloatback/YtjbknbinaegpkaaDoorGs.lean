/- What the two readers guess of a text, told as functions of its bytes; of a float's text both guess that float. -/
import Derived.Test.YtjbknbinaegpkaaDoorNear
import Derived.Test.YtjbknbinaegpkaaDoorWalk3
import Derived.Test.YtjbknbinaegpkaaDoorImpl2
import Derived.Lib.ParseIntBCases
import Derived.Lib.IndexMore
namespace Go.Proofs.YtjbknbinaegpkaaDoor
set_option linter.unusedVariables false
open Go.ChangeShapes Go.WideShapes Go.ChangeAt Go.RowKit

/-- The number that the digits spell, those up to the place lim alone. -/
def foldR (lim : Nat) : Nat → Int → List UInt8 → Int
  | _, n, [] => n
  | i, n, c :: r => foldR lim (i + 1) (if (48 ≤ c.toNat ∧ c.toNat ≤ 57) ∧ i < lim then wrap64 (wrap64 (n * 10) + ((c.toNat : Int) - 48)) else n) r
def readW (lim : Nat) (l : List UInt8) : Int := if l.head? = some 45 then wrap64 (-(foldR lim 0 0 l)) else foldR lim 0 0 l
/-- The place of the first p. -/
def posP : List UInt8 → Nat
  | [] => 0
  | c :: r => if c = 112 then 0 else posP r + 1

def minusOf (l : List UInt8) : Bool := decide (l.head? = some 45)
def sizeOfT (l : List UInt8) : List UInt8 := if minusOf l then l.tail else l
def numS (mi : Bool) (t : List UInt8) : Option Int :=
  if posP t = t.length then none
  else if readW 20 (t.take (posP t)) < 0 ∨ readW 16 (t.drop (posP t + 1)) < -2000 ∨ 2000 < readW 16 (t.drop (posP t + 1)) then none
  else some (signedOf mi (rndOf (readW 20 (t.take (posP t))).toNat (readW 16 (t.drop (posP t + 1))) : Nat))
def guessT (mi : Bool) (t : List UInt8) : Option Int :=
  if t = [110, 97, 110] then some 9221120237041090560
  else if t = [105, 110, 102] then some (signedOf mi 9218868437227405312)
  else numS mi t
def guessS (l : List UInt8) : Option Int := if 40 < l.length then none else guessT (minusOf l) (sizeOfT l)
def pairI (neg : Bool) : Lib.NumEnd Nat → Lib.NumEnd Int → Option Int
  | .ok m, .ok k => some (signedOf neg (rndOf m k : Nat))
  | _, _ => none
def numI (l : List UInt8) : Option Int := pairI (Lib.hasPrefix l [45]) (Lib.parseUintB 53 (Lib.cut (Lib.trimPrefix l [45]) [112]).1) (Lib.parseIntB 16 (Lib.cut (Lib.trimPrefix l [45]) [112]).2.1)
def guessI (l : List UInt8) : Option Int :=
  if l = [110, 97, 110] then some 9221120237041090560
  else if l = [105, 110, 102] then some 9218868437227405312
  else if l = [45, 105, 110, 102] then some (-4503599627370496)
  else numI l
/-- What is answered: the guess, where it is shown as the text. -/
def ansOf (g : Option Int) (l : List UInt8) : Int × Bool :=
  match g with
  | none => (0, false)
  | some x => if showL x = l then (x, true) else (0, false)

/-! Digits. -/
theorem dig_toNat {d : Nat} (h : d < 10) : (UInt8.ofNat (48 + d)).toNat = 48 + d := by
  simp only [UInt8.toNat_ofNat', Nat.reducePow]; omega
theorem dec_digit : ∀ (n u : Nat), u ≤ n → ∀ c ∈ Lib.decDigits u, 48 ≤ c.toNat ∧ c.toNat ≤ 57 := by
  intro n
  induction n with
  | zero =>
    intro u hu c hc
    rw [Lib.decDigits, dif_pos (by omega)] at hc
    simp only [List.mem_singleton] at hc
    subst hc
    rw [dig_toNat (by omega)]; omega
  | succ n ih =>
    intro u hu c hc
    rw [Lib.decDigits] at hc
    split at hc
    · simp only [List.mem_singleton] at hc
      subst hc
      rw [dig_toNat (by omega)]; omega
    · rw [List.mem_append] at hc
      rcases hc with hc | hc
      · exact ih (u / 10) (by omega) c hc
      · simp only [List.mem_singleton] at hc
        subst hc
        rw [dig_toNat (by omega)]; omega
theorem dec_ne : ∀ u, Lib.decDigits u ≠ [] := by
  intro u
  rw [Lib.decDigits]
  split <;> simp

theorem foldR_append (lim : Nat) : ∀ (a b : List UInt8) (i : Nat) (n : Int), foldR lim i n (a ++ b) = foldR lim (i + a.length) (foldR lim i n a) b := by
  intro a
  induction a with
  | nil => intro b i n; rfl
  | cons c a ih =>
    intro b i n
    rw [List.cons_append, foldR, ih, foldR, List.length_cons]
    congr 1
    omega
theorem fold_step (n d : Int) (h0 : 0 ≤ n) (h1 : n < 900719925474100) (d0 : 0 ≤ d) (d1 : d ≤ 9) : wrap64 (wrap64 (n * 10) + d) = n * 10 + d := by
  rw [wrap64_id (n * 10) (by omega) (by omega), wrap64_id _ (by omega) (by omega)]
theorem foldR_dec (lim : Nat) : ∀ (k u : Nat), u < 10 ^ k → k ≤ lim → u < 9007199254740992 → (Lib.decDigits u).length ≤ max k 1 ∧ foldR lim 0 0 (Lib.decDigits u) = (u : Int) ∨ lim = 0 := by
  intro k
  induction k with
  | zero =>
    intro u hu _ _
    by_cases hl : lim = 0
    · exact .inr hl
    · left
      obtain rfl : u = 0 := by simpa using hu
      rw [Lib.decDigits, dif_pos (by omega)]
      refine ⟨by simp, ?_⟩
      have h0 : 0 < lim := by omega
      simp [foldR, h0, wrap64]
  | succ k ih =>
    intro u hu hk hb
    left
    rw [Lib.decDigits]
    split
    · rename_i h
      refine ⟨by simp, ?_⟩
      have h0 : 0 < lim := by omega
      have e := dig_toNat h
      simp only [foldR, e, h0, and_true]
      rw [if_pos (by omega), fold_step 0 _ (by omega) (by omega) (by omega) (by omega)]
      omega
    · rename_i h
      rcases ih (u / 10) (by rw [Nat.pow_succ] at hu; omega) (by omega) (by omega) with ⟨h1, h2⟩ | h2
      · have hk0 : 1 ≤ k := by
          rcases Nat.eq_zero_or_pos k with hz | hz
          · subst hz; simp at hu; omega
          · exact hz
        refine ⟨by simp; omega, ?_⟩
        rw [foldR_append, h2]
        have hlen : 0 + (Lib.decDigits (u / 10)).length < lim := by omega
        have e := dig_toNat (d := u % 10) (by omega)
        simp only [foldR, e, hlen, and_true]
        rw [if_pos (by omega), fold_step _ _ (by omega) (by omega) (by omega) (by omega)]
        omega
      · omega
theorem parseM_append (M : Nat) : ∀ (a : List UInt8) (acc : Nat) (b : List UInt8) (x : Nat), Lib.parseUintM M acc a = .ok x → Lib.parseUintM M acc (a ++ b) = Lib.parseUintM M x b := by
  intro a
  induction a with
  | nil => intro acc b x h; simp only [Lib.parseUintM] at h; injection h with h; subst h; rfl
  | cons c a ih =>
    intro acc b x h
    rw [List.cons_append]
    simp only [Lib.parseUintM] at h ⊢
    split at h
    · rename_i hd
      rw [if_pos hd]
      split at h
      · cases h
      · rename_i h1
        rw [if_neg h1]
        split at h
        · cases h
        · rename_i h2
          rw [if_neg h2]
          exact ih _ b x h
    · cases h
theorem parseM_dec (M : Nat) (hM : M < 9223372036854775808) : ∀ (n u : Nat), u ≤ n → u ≤ M → Lib.parseUintM M 0 (Lib.decDigits u) = .ok u := by
  intro n
  induction n with
  | zero =>
    intro u hu hm
    obtain rfl : u = 0 := by omega
    rw [Lib.decDigits, dif_pos (by omega)]
    simp [Lib.parseUintM]
  | succ n ih =>
    intro u hu hm
    rw [Lib.decDigits]
    split
    · rename_i h
      have e := dig_toNat h
      simp only [Lib.parseUintM, e]
      rw [if_pos (by omega), if_neg (by omega), if_neg (by omega)]
      congr 1; omega
    · rename_i h
      rw [parseM_append M _ 0 _ (u / 10) (ih (u / 10) (by omega) (by omega))]
      have e := dig_toNat (d := u % 10) (by omega)
      simp only [Lib.parseUintM, e]
      rw [if_pos (by omega), if_neg (by omega), if_neg (by omega)]
      congr 1; omega
theorem parseB_dec (B u : Nat) (hB : B ≤ 53) (hu : u ≤ 2 ^ B - 1) : Lib.parseUintB B (Lib.decDigits u) = .ok u := by
  have hp : 2 ^ B ≤ 2 ^ 53 := Nat.pow_le_pow_right (by decide) hB
  have h53 : (2 : Nat) ^ 53 = 9007199254740992 := by decide
  rw [Lib.parseUintB, if_neg (dec_ne u)]
  exact parseM_dec _ (by omega) u u (Nat.le_refl _) hu
/-- A digit is neither - nor p nor a letter. -/
theorem head_dec (u : Nat) : ∃ c r, Lib.decDigits u = c :: r ∧ 48 ≤ c.toNat ∧ c.toNat ≤ 57 := by
  cases h : Lib.decDigits u with
  | nil => exact absurd h (dec_ne u)
  | cons c r =>
    have := dec_digit u u (Nat.le_refl _) c (by rw [h]; simp)
    exact ⟨c, r, rfl, this.1, this.2⟩
theorem readW_dec (lim u : Nat) (hl : 1 ≤ lim) (hu : u < 10 ^ lim) (hb : u < 9007199254740992) : readW lim (Lib.decDigits u) = u := by
  obtain ⟨c, r, he, h1, h2⟩ := head_dec u
  unfold readW
  have hn : ¬ (Lib.decDigits u).head? = some 45 := by
    rw [he]; intro h; simp at h; subst h; revert h1; decide
  rw [if_neg hn]
  rcases foldR_dec lim lim u hu (Nat.le_refl _) hb with h | h
  · exact h.2
  · omega
theorem foldR_minus (lim : Nat) (l : List UInt8) : foldR lim 0 0 (45 :: l) = foldR lim 1 0 l := by
  rw [foldR]; congr 1
end Go.Proofs.YtjbknbinaegpkaaDoor
