/- Decimal numerals: spec.l1Int and spec.l1ReadInt, what they answer. -/
import Derived.Test.YtkmjapdippgldabDoorText
import Derived.Test.YtkmjapdippgldabDoorName
import Derived.OwnWalk
import Derived.LoopTactic
import Derived.Below
import Derived.Laws.IdiomStrings
import Derived.Laws.Concat
import Derived.Lib.ItoaNum
import Derived.Lib.ParseIntB
namespace Go.Proofs.YtkmjapdippgldabDoor
set_option linter.unusedVariables false
open Go.ChangeShapes Go.WideShapes Go.ChangeAt Go.RowKit

def mkS (p : List UInt8) : ByteArray := ⟨p.toArray⟩
theorem mkS_list (p : List UInt8) : (mkS p).data.toList = p := rfl
theorem mkS_append (a b : List UInt8) : mkS a ++ mkS b = mkS (a ++ b) := by
  simp [mkS, ByteArray.mk_append_mk]

def decF (u : Nat) (acc : List UInt8) : List UInt8 := if u ≤ 9 then UInt8.ofNat (48 + u) :: acc else decF (u / 10) (UInt8.ofNat (48 + u % 10) :: acc)
theorem decF_low {u : Nat} (h : u ≤ 9) (acc : List UInt8) : decF u acc = UInt8.ofNat (48 + u) :: acc := by rw [decF, if_pos h]
theorem decF_step {u : Nat} (h : ¬ u ≤ 9) (acc : List UInt8) : decF u acc = decF (u / 10) (UInt8.ofNat (48 + u % 10) :: acc) := by rw [decF, if_neg h]
theorem decF_dec : ∀ (n u : Nat) (acc : List UInt8), u ≤ n → decF u acc = Lib.decDigits u ++ acc := by
  intro n
  induction n with
  | zero =>
    intro u acc h
    obtain rfl : u = 0 := by omega
    rw [decF_low (by omega), Lib.decDigits]; simp
  | succ n ih =>
    intro u acc h
    by_cases h9 : u ≤ 9
    · rw [decF_low h9, Lib.decDigits, dif_pos (by omega)]; rfl
    · rw [decF_step h9, ih (u / 10) _ (by omega)]
      conv => rhs; rw [Lib.decDigits, dif_neg (by omega)]
      simp

/-- The numerals of up to three digits. -/
def dec3 (m : Nat) : List UInt8 := if m < 10 then [UInt8.ofNat (48 + m)] else if m < 100 then [UInt8.ofNat (48 + m / 10), UInt8.ofNat (48 + m % 10)] else [UInt8.ofNat (48 + m / 100), UInt8.ofNat (48 + m / 10 % 10), UInt8.ofNat (48 + m % 10)]
theorem dec3_eq {m : Nat} (h : m < 1000) : Lib.decDigits m = dec3 m := by
  have e := (decF_dec m m [] (Nat.le_refl _)).symm
  rw [List.append_nil] at e
  rw [e]
  unfold dec3
  by_cases h1 : m < 10
  · rw [if_pos h1, decF_low (by omega)]
  · rw [if_neg h1, decF_step (by omega)]
    by_cases h2 : m < 100
    · rw [if_pos h2, decF_low (by omega)]
    · rw [if_neg h2, decF_step (by omega), decF_low (by omega)]
      rw [Nat.div_div_eq_div_mul]

def rd : List UInt8 → Nat → Nat → Nat
  | [], _, n => n
  | b :: t, i, n => rd t (i + 1) (if 48 ≤ b.toNat ∧ b.toNat ≤ 57 ∧ i < 16 then n * 10 + (b.toNat - 48) else n)
def shapeNum (d : List UInt8) : Bool := (List.range 400).any fun m => dec3 m == d

theorem table1 : ((List.range 400).all fun m => rd (dec3 m) 0 0 == m) = true := by decide +kernel
theorem table2 : ((List.range 400).all fun m => match Lib.parseIntB 64 (dec3 m) with | .ok v => v == (m : Int) | _ => false) = true := by decide +kernel
theorem table3 : ((List.range 400).all fun m => match dec3 m with | b :: _ => b != 45 | [] => false) = true := by decide +kernel

theorem shapeNum_iff (d : List UInt8) : shapeNum d = true ↔ ∃ m, m < 400 ∧ d = dec3 m := by
  unfold shapeNum
  rw [List.any_eq_true]
  constructor
  · rintro ⟨m, hm, h⟩
    exact ⟨m, List.mem_range.1 hm, (beq_iff_eq.1 h).symm⟩
  · rintro ⟨m, hm, h⟩
    exact ⟨m, List.mem_range.2 hm, by rw [h]; simp⟩
theorem shapeNum_read (d : List UInt8) : (decide (rd d 0 0 < 400) && (Lib.decDigits (rd d 0 0) == d)) = shapeNum d := by
  rw [Bool.eq_iff_iff, shapeNum_iff]
  simp only [Bool.and_eq_true, decide_eq_true_eq, beq_iff_eq]
  constructor
  · rintro ⟨h1, h2⟩
    exact ⟨_, h1, by rw [← dec3_eq (by omega)]; exact h2.symm⟩
  · rintro ⟨m, hm, rfl⟩
    have h := List.all_eq_true.1 table1 m (List.mem_range.2 hm)
    rw [beq_iff_eq] at h
    rw [h]
    exact ⟨hm, dec3_eq (by omega)⟩
theorem shapeNum_minus (t : List UInt8) : shapeNum (45 :: t) = false := by
  cases h : shapeNum (45 :: t) with
  | false => rfl
  | true =>
    obtain ⟨m, hm, e⟩ := (shapeNum_iff _).1 h
    have h := List.all_eq_true.1 table3 m (List.mem_range.2 hm)
    rw [← e] at h
    simp at h
theorem shapeNum_nil : shapeNum [] = false := by
  cases h : shapeNum [] with
  | false => rfl
  | true =>
    obtain ⟨m, hm, e⟩ := (shapeNum_iff _).1 h
    have h := List.all_eq_true.1 table3 m (List.mem_range.2 hm)
    rw [← e] at h
    simp at h
theorem shapeNum_parse {d : List UInt8} {v : Int} (h : Lib.parseIntB 64 d = .ok v) : (decide (0 ≤ v) && decide (v < 400) && (Lib.itoa v == d)) = shapeNum d := by
  rw [Bool.eq_iff_iff, shapeNum_iff]
  simp only [Bool.and_eq_true, decide_eq_true_eq, beq_iff_eq]
  constructor
  · rintro ⟨⟨h1, h2⟩, h3⟩
    refine ⟨v.toNat, by omega, ?_⟩
    rw [← dec3_eq (by omega), ← h3, Lib.itoa, if_neg (by omega)]
  · rintro ⟨m, hm, rfl⟩
    have h' := List.all_eq_true.1 table2 m (List.mem_range.2 hm)
    rw [h] at h'
    simp at h'
    subst h'
    refine ⟨⟨by omega, by omega⟩, ?_⟩
    rw [Lib.itoa, if_neg (by omega)]
    exact dec3_eq (m := m) (by omega)
theorem shapeNum_bad {d : List UInt8} (h : ∀ v, Lib.parseIntB 64 d ≠ .ok v) : shapeNum d = false := by
  cases hs : shapeNum d with
  | false => rfl
  | true =>
    obtain ⟨m, hm, rfl⟩ := (shapeNum_iff _).1 hs
    have h' := List.all_eq_true.1 table2 m (List.mem_range.2 hm)
    split at h'
    · rename_i v hv; exact absurd hv (h v)
    · cases h'
end Go.Proofs.YtkmjapdippgldabDoor
