/- spec.l3Words: the words of an instruction that is right. -/
import Derived.Test.YtcencddbdidjjaaGreatDoorOpW
import Derived.Test.YtcencddbdidjjaaGreatDoorSwB1
import Derived.Test.YtcencddbdidjjaaGreatDoorSwB4
import Derived.Test.YtcencddbdidjjaaGreatDoorSwB6
import Derived.Test.YtcencddbdidjjaaGreatDoorSwB7
import Derived.Test.YtcencddbdidjjaaGreatDoorSwB11
import Derived.Test.YtcencddbdidjjaaGreatDoorSwB13
import Derived.Test.YtcencddbdidjjaaGreatDoorSh7
import Derived.Test.YtcencddbdidjjaaGreatDoorLawA
import Derived.Deep.RegionHeld3
namespace Go.Proofs.YtcencddbdidjjaaGreatDoor
set_option linter.unusedVariables false
open Go.ChangeShapes Go.WideShapes Go.ChangeAt Go.RowKit

abbrev SpecWords (o k a b : Int) (T C N Y : ByteArray) (v : Value) (zs : List Int) (w : World) : Prop :=
  Calls Tryz.prog 12 #[insV o k a b T C N Y v] w fun e w' => ∃ v, e = .returned v ∧ WordsAt w.heap.size w' v (wordsL o k a b T C N Y zs) ∧ Below w.heap.size w w'
theorem letK : ∀ j : Nat, j < 5 → wordAt letT (j : Int) = wordAt kindT (j : Int)
  | 0, _ | 1, _ | 2, _ | 3, _ | 4, _ => rfl
  | n + 5, h => absurd h (by omega)
theorem letZ : ∀ j : Nat, j < 8 → j ≠ 4 → wordAt letT (j : Int) = wordAt convT (j : Int)
  | 0, _, _ | 1, _, _ | 2, _, _ | 3, _, _ | 5, _, _ | 6, _, _ | 7, _, _ => rfl
  | 4, _, h => absurd rfl h
  | n + 8, h, _ => absurd h (by omega)
theorem conv_ne {k t : Int} (h : convB k t = true) : t ≠ 4 := by
  intro e
  subst e
  unfold convB at h
  by_cases h1 : k = 1
  · rw [if_pos h1] at h; revert h; decide
  rw [if_neg h1] at h
  by_cases h2 : k = 2
  · rw [if_pos h2] at h; revert h; decide
  rw [if_neg h2] at h
  by_cases h3 : k = 3
  · rw [if_pos h3] at h; revert h; decide
  rw [if_neg h3] at h; cases h
theorem spw1 (k a b : Int) (T C N Y : ByteArray) (v : Value) (zs : List Int) (w : World) (ht : Tab w v zs) (hz : zs.length ≤ 1048576) (ha : B64 a) (hT : T.size ≤ 1048576) (h : contS 1 k a b T C N Y zs 400 40 = true) : SpecWords 1 k a b T C N Y v zs w := by
  obtain ⟨ta, tc, rfl⟩ := ht.form
  have h : ((k == 1 && wrap32 a == a) || k == 2 || (k == 3 && fltOk a)) = true := h
  simp only [Bool.and_eq_true, Bool.or_eq_true, beq_iff_eq] at h
  by_cases hk : k = 3
  · subst hk
    exact sw1f a b T C N Y ta zs.length tc w
  · obtain ⟨j, rfl⟩ := Int.eq_ofNat_of_zero_le (show 0 ≤ k by omega)
    have hh := sw1 a b j T C N Y ta zs.length tc w (by omega) ha (by simpa using hk)
    rw [letK j (by omega)] at hh
    have e : wordsL 1 (j : Int) a b T C N Y zs = wordAt opsT 1 :: [wordAt kindT j, Lib.itoa a] := by
      show _ :: (_ :: ((if (j : Int) = 3 then [showL a] else [Lib.itoa a]) ++ [])) = _
      rw [if_neg hk]; rfl
    unfold SpecWords
    rw [e]; exact hh
theorem spw2 (k a b : Int) (T C N Y : ByteArray) (v : Value) (zs : List Int) (w : World) (ht : Tab w v zs) (hz : zs.length ≤ 1048576) (ha : B64 a) (hT : T.size ≤ 1048576) (h : contS 2 k a b T C N Y zs 400 40 = true) : SpecWords 2 k a b T C N Y v zs w := by
  obtain ⟨ta, tc, rfl⟩ := ht.form
  have h : decide ((T.size : Int) ≤ 200) = true := h
  exact sw2 k a b T C N Y ta zs.length tc w hT
theorem spw3 (k a b : Int) (T C N Y : ByteArray) (v : Value) (zs : List Int) (w : World) (ht : Tab w v zs) (hz : zs.length ≤ 1048576) (ha : B64 a) (hT : T.size ≤ 1048576) (h : contS 3 k a b T C N Y zs 400 40 = true) : SpecWords 3 k a b T C N Y v zs w := by
  obtain ⟨ta, tc, rfl⟩ := ht.form
  exact sw3 k a b T C N Y ta zs.length tc w
theorem spw4 (k a b : Int) (T C N Y : ByteArray) (v : Value) (zs : List Int) (w : World) (ht : Tab w v zs) (hz : zs.length ≤ 1048576) (ha : B64 a) (hT : T.size ≤ 1048576) (h : contS 4 k a b T C N Y zs 400 40 = true) : SpecWords 4 k a b T C N Y v zs w := by
  obtain ⟨ta, tc, rfl⟩ := ht.form
  have h : (betw k 1 4 && wthn a 40) = true := h
  simp only [betw, wthn, Bool.and_eq_true, decide_eq_true_eq] at h
  obtain ⟨j, rfl⟩ := Int.eq_ofNat_of_zero_le (show 0 ≤ k by omega)
  have hh := sw4 a b j T C N Y ta zs.length tc w (by omega) ha
  rw [letK j (by omega)] at hh
  exact hh
theorem spw5 (k a b : Int) (T C N Y : ByteArray) (v : Value) (zs : List Int) (w : World) (ht : Tab w v zs) (hz : zs.length ≤ 1048576) (ha : B64 a) (hT : T.size ≤ 1048576) (h : contS 5 k a b T C N Y zs 400 40 = true) : SpecWords 5 k a b T C N Y v zs w := by
  obtain ⟨ta, tc, rfl⟩ := ht.form
  have h : (betw k 1 4 && wthn a 40) = true := h
  simp only [betw, wthn, Bool.and_eq_true, decide_eq_true_eq] at h
  obtain ⟨j, rfl⟩ := Int.eq_ofNat_of_zero_le (show 0 ≤ k by omega)
  have hh := sw5 a b j T C N Y ta zs.length tc w (by omega) ha
  rw [letK j (by omega)] at hh
  exact hh
theorem spw6 (k a b : Int) (T C N Y : ByteArray) (v : Value) (zs : List Int) (w : World) (ht : Tab w v zs) (hz : zs.length ≤ 1048576) (ha : B64 a) (hT : T.size ≤ 1048576) (h : contS 6 k a b T C N Y zs 400 40 = true) : SpecWords 6 k a b T C N Y v zs w := by
  obtain ⟨ta, tc, rfl⟩ := ht.form
  have h : (wthn a 40 && betw b (-32768) 32767) = true := h
  simp only [betw, wthn, Bool.and_eq_true, decide_eq_true_eq] at h
  exact sw6 k a b T C N Y ta zs.length tc w ha ⟨by omega, by omega⟩
theorem spw7 (k a b : Int) (T C N Y : ByteArray) (v : Value) (zs : List Int) (w : World) (ht : Tab w v zs) (hz : zs.length ≤ 1048576) (ha : B64 a) (hT : T.size ≤ 1048576) (h : contS 7 k a b T C N Y zs 400 40 = true) : SpecWords 7 k a b T C N Y v zs w := by
  obtain ⟨ta, tc, rfl⟩ := ht.form
  exact sw7 k a b T C N Y ta zs.length tc w
theorem spw8 (k a b : Int) (T C N Y : ByteArray) (v : Value) (zs : List Int) (w : World) (ht : Tab w v zs) (hz : zs.length ≤ 1048576) (ha : B64 a) (hT : T.size ≤ 1048576) (h : contS 8 k a b T C N Y zs 400 40 = true) : SpecWords 8 k a b T C N Y v zs w := by
  obtain ⟨ta, tc, rfl⟩ := ht.form
  exact sw8 k a b T C N Y ta zs.length tc w
theorem spw9 (k a b : Int) (T C N Y : ByteArray) (v : Value) (zs : List Int) (w : World) (ht : Tab w v zs) (hz : zs.length ≤ 1048576) (ha : B64 a) (hT : T.size ≤ 1048576) (h : contS 9 k a b T C N Y zs 400 40 = true) : SpecWords 9 k a b T C N Y v zs w := by
  obtain ⟨ta, tc, rfl⟩ := ht.form
  exact sw9 k a b T C N Y ta zs.length tc w
theorem spw10 (k a b : Int) (T C N Y : ByteArray) (v : Value) (zs : List Int) (w : World) (ht : Tab w v zs) (hz : zs.length ≤ 1048576) (ha : B64 a) (hT : T.size ≤ 1048576) (h : contS 10 k a b T C N Y zs 400 40 = true) : SpecWords 10 k a b T C N Y v zs w := by
  obtain ⟨ta, tc, rfl⟩ := ht.form
  exact sw10 k a b T C N Y ta zs.length tc w
theorem spw11 (k a b : Int) (T C N Y : ByteArray) (v : Value) (zs : List Int) (w : World) (ht : Tab w v zs) (hz : zs.length ≤ 1048576) (ha : B64 a) (hT : T.size ≤ 1048576) (h : contS 11 k a b T C N Y zs 400 40 = true) : SpecWords 11 k a b T C N Y v zs w := by
  obtain ⟨ta, tc, rfl⟩ := ht.form
  have h : (k == 1 || k == 2 || (k == 3 && flop 11)) = true := h
  simp only [Bool.and_eq_true, Bool.or_eq_true, beq_iff_eq] at h
  obtain ⟨j, rfl⟩ := Int.eq_ofNat_of_zero_le (show 0 ≤ k by omega)
  have hh := sw11 a b j T C N Y ta zs.length tc w (by omega)
  rw [letK j (by omega)] at hh
  exact hh
theorem spw12 (k a b : Int) (T C N Y : ByteArray) (v : Value) (zs : List Int) (w : World) (ht : Tab w v zs) (hz : zs.length ≤ 1048576) (ha : B64 a) (hT : T.size ≤ 1048576) (h : contS 12 k a b T C N Y zs 400 40 = true) : SpecWords 12 k a b T C N Y v zs w := by
  obtain ⟨ta, tc, rfl⟩ := ht.form
  have h : (k == 1 || k == 2 || (k == 3 && flop 12)) = true := h
  simp only [Bool.and_eq_true, Bool.or_eq_true, beq_iff_eq] at h
  obtain ⟨j, rfl⟩ := Int.eq_ofNat_of_zero_le (show 0 ≤ k by omega)
  have hh := sw12 a b j T C N Y ta zs.length tc w (by omega)
  rw [letK j (by omega)] at hh
  exact hh
theorem spw13 (k a b : Int) (T C N Y : ByteArray) (v : Value) (zs : List Int) (w : World) (ht : Tab w v zs) (hz : zs.length ≤ 1048576) (ha : B64 a) (hT : T.size ≤ 1048576) (h : contS 13 k a b T C N Y zs 400 40 = true) : SpecWords 13 k a b T C N Y v zs w := by
  obtain ⟨ta, tc, rfl⟩ := ht.form
  have h : (k == 1 || k == 2 || (k == 3 && flop 13)) = true := h
  simp only [Bool.and_eq_true, Bool.or_eq_true, beq_iff_eq] at h
  obtain ⟨j, rfl⟩ := Int.eq_ofNat_of_zero_le (show 0 ≤ k by omega)
  have hh := sw13 a b j T C N Y ta zs.length tc w (by omega)
  rw [letK j (by omega)] at hh
  exact hh
theorem spw14 (k a b : Int) (T C N Y : ByteArray) (v : Value) (zs : List Int) (w : World) (ht : Tab w v zs) (hz : zs.length ≤ 1048576) (ha : B64 a) (hT : T.size ≤ 1048576) (h : contS 14 k a b T C N Y zs 400 40 = true) : SpecWords 14 k a b T C N Y v zs w := by
  obtain ⟨ta, tc, rfl⟩ := ht.form
  have h : (k == 1 || k == 2 || (k == 3 && flop 14)) = true := h
  simp only [Bool.and_eq_true, Bool.or_eq_true, beq_iff_eq] at h
  obtain ⟨j, rfl⟩ := Int.eq_ofNat_of_zero_le (show 0 ≤ k by omega)
  have hh := sw14 a b j T C N Y ta zs.length tc w (by omega)
  rw [letK j (by omega)] at hh
  exact hh
theorem spw15 (k a b : Int) (T C N Y : ByteArray) (v : Value) (zs : List Int) (w : World) (ht : Tab w v zs) (hz : zs.length ≤ 1048576) (ha : B64 a) (hT : T.size ≤ 1048576) (h : contS 15 k a b T C N Y zs 400 40 = true) : SpecWords 15 k a b T C N Y v zs w := by
  obtain ⟨ta, tc, rfl⟩ := ht.form
  have h : (k == 1 || k == 2 || (k == 3 && flop 15)) = true := h
  simp only [Bool.and_eq_true, Bool.or_eq_true, beq_iff_eq] at h
  obtain ⟨j, rfl⟩ := Int.eq_ofNat_of_zero_le (show 0 ≤ k by omega)
  have hh := sw15 a b j T C N Y ta zs.length tc w (by omega)
  rw [letK j (by omega)] at hh
  exact hh
theorem spw16 (k a b : Int) (T C N Y : ByteArray) (v : Value) (zs : List Int) (w : World) (ht : Tab w v zs) (hz : zs.length ≤ 1048576) (ha : B64 a) (hT : T.size ≤ 1048576) (h : contS 16 k a b T C N Y zs 400 40 = true) : SpecWords 16 k a b T C N Y v zs w := by
  obtain ⟨ta, tc, rfl⟩ := ht.form
  have h : (k == 1 || k == 2 || (k == 3 && flop 16)) = true := h
  simp only [Bool.and_eq_true, Bool.or_eq_true, beq_iff_eq] at h
  obtain ⟨j, rfl⟩ := Int.eq_ofNat_of_zero_le (show 0 ≤ k by omega)
  have hh := sw16 a b j T C N Y ta zs.length tc w (by omega)
  rw [letK j (by omega)] at hh
  exact hh
theorem spw17 (k a b : Int) (T C N Y : ByteArray) (v : Value) (zs : List Int) (w : World) (ht : Tab w v zs) (hz : zs.length ≤ 1048576) (ha : B64 a) (hT : T.size ≤ 1048576) (h : contS 17 k a b T C N Y zs 400 40 = true) : SpecWords 17 k a b T C N Y v zs w := by
  obtain ⟨ta, tc, rfl⟩ := ht.form
  have h : (k == 1 || k == 2 || (k == 3 && flop 17)) = true := h
  simp only [Bool.and_eq_true, Bool.or_eq_true, beq_iff_eq] at h
  obtain ⟨j, rfl⟩ := Int.eq_ofNat_of_zero_le (show 0 ≤ k by omega)
  have hh := sw17 a b j T C N Y ta zs.length tc w (by omega)
  rw [letK j (by omega)] at hh
  exact hh
theorem spw18 (k a b : Int) (T C N Y : ByteArray) (v : Value) (zs : List Int) (w : World) (ht : Tab w v zs) (hz : zs.length ≤ 1048576) (ha : B64 a) (hT : T.size ≤ 1048576) (h : contS 18 k a b T C N Y zs 400 40 = true) : SpecWords 18 k a b T C N Y v zs w := by
  obtain ⟨ta, tc, rfl⟩ := ht.form
  have h : (k == 1 || k == 2 || (k == 3 && flop 18)) = true := h
  simp only [Bool.and_eq_true, Bool.or_eq_true, beq_iff_eq] at h
  obtain ⟨j, rfl⟩ := Int.eq_ofNat_of_zero_le (show 0 ≤ k by omega)
  have hh := sw18 a b j T C N Y ta zs.length tc w (by omega)
  rw [letK j (by omega)] at hh
  exact hh
theorem spw19 (k a b : Int) (T C N Y : ByteArray) (v : Value) (zs : List Int) (w : World) (ht : Tab w v zs) (hz : zs.length ≤ 1048576) (ha : B64 a) (hT : T.size ≤ 1048576) (h : contS 19 k a b T C N Y zs 400 40 = true) : SpecWords 19 k a b T C N Y v zs w := by
  obtain ⟨ta, tc, rfl⟩ := ht.form
  have h : (k == 1 || k == 2 || (k == 3 && flop 19)) = true := h
  simp only [Bool.and_eq_true, Bool.or_eq_true, beq_iff_eq] at h
  obtain ⟨j, rfl⟩ := Int.eq_ofNat_of_zero_le (show 0 ≤ k by omega)
  have hh := sw19 a b j T C N Y ta zs.length tc w (by omega)
  rw [letK j (by omega)] at hh
  exact hh
theorem spw20 (k a b : Int) (T C N Y : ByteArray) (v : Value) (zs : List Int) (w : World) (ht : Tab w v zs) (hz : zs.length ≤ 1048576) (ha : B64 a) (hT : T.size ≤ 1048576) (h : contS 20 k a b T C N Y zs 400 40 = true) : SpecWords 20 k a b T C N Y v zs w := by
  obtain ⟨ta, tc, rfl⟩ := ht.form
  have h : (k == 1 || k == 2 || (k == 3 && flop 20)) = true := h
  simp only [Bool.and_eq_true, Bool.or_eq_true, beq_iff_eq] at h
  obtain ⟨j, rfl⟩ := Int.eq_ofNat_of_zero_le (show 0 ≤ k by omega)
  have hh := sw20 a b j T C N Y ta zs.length tc w (by omega)
  rw [letK j (by omega)] at hh
  exact hh
theorem spw21 (k a b : Int) (T C N Y : ByteArray) (v : Value) (zs : List Int) (w : World) (ht : Tab w v zs) (hz : zs.length ≤ 1048576) (ha : B64 a) (hT : T.size ≤ 1048576) (h : contS 21 k a b T C N Y zs 400 40 = true) : SpecWords 21 k a b T C N Y v zs w := by
  obtain ⟨ta, tc, rfl⟩ := ht.form
  have h : (k == 1 || k == 2 || (k == 3 && flop 21)) = true := h
  simp only [Bool.and_eq_true, Bool.or_eq_true, beq_iff_eq] at h
  obtain ⟨j, rfl⟩ := Int.eq_ofNat_of_zero_le (show 0 ≤ k by omega)
  have hh := sw21 a b j T C N Y ta zs.length tc w (by omega)
  rw [letK j (by omega)] at hh
  exact hh
theorem spw22 (k a b : Int) (T C N Y : ByteArray) (v : Value) (zs : List Int) (w : World) (ht : Tab w v zs) (hz : zs.length ≤ 1048576) (ha : B64 a) (hT : T.size ≤ 1048576) (h : contS 22 k a b T C N Y zs 400 40 = true) : SpecWords 22 k a b T C N Y v zs w := by
  obtain ⟨ta, tc, rfl⟩ := ht.form
  have h : (k == 1 || k == 2 || (k == 3 && flop 22)) = true := h
  simp only [Bool.and_eq_true, Bool.or_eq_true, beq_iff_eq] at h
  obtain ⟨j, rfl⟩ := Int.eq_ofNat_of_zero_le (show 0 ≤ k by omega)
  have hh := sw22 a b j T C N Y ta zs.length tc w (by omega)
  rw [letK j (by omega)] at hh
  exact hh
theorem spw23 (k a b : Int) (T C N Y : ByteArray) (v : Value) (zs : List Int) (w : World) (ht : Tab w v zs) (hz : zs.length ≤ 1048576) (ha : B64 a) (hT : T.size ≤ 1048576) (h : contS 23 k a b T C N Y zs 400 40 = true) : SpecWords 23 k a b T C N Y v zs w := by
  obtain ⟨ta, tc, rfl⟩ := ht.form
  have h : (k == 2 || (k == 3 && (b == -1 || b == 1))) = true := h
  simp only [Bool.and_eq_true, Bool.or_eq_true, beq_iff_eq] at h
  by_cases hk : k = 3
  · subst hk
    exact sw23f a b T C N Y ta zs.length tc w ⟨by omega, by omega⟩
  · obtain ⟨j, rfl⟩ := Int.eq_ofNat_of_zero_le (show 0 ≤ k by omega)
    have hh := sw23 a b j T C N Y ta zs.length tc w (by omega) (by simpa using hk)
    rw [letK j (by omega)] at hh
    have e : wordsL 23 (j : Int) a b T C N Y zs = wordAt opsT 23 :: [wordAt kindT j] := by
      show _ :: (_ :: ((if (j : Int) = 3 then [Lib.itoa b] else []) ++ [])) = _
      rw [if_neg hk]; rfl
    unfold SpecWords
    rw [e]; exact hh
theorem spw24 (k a b : Int) (T C N Y : ByteArray) (v : Value) (zs : List Int) (w : World) (ht : Tab w v zs) (hz : zs.length ≤ 1048576) (ha : B64 a) (hT : T.size ≤ 1048576) (h : contS 24 k a b T C N Y zs 400 40 = true) : SpecWords 24 k a b T C N Y v zs w := by
  obtain ⟨ta, tc, rfl⟩ := ht.form
  have h : convB k a = true := h
  obtain ⟨h0, h1, h2, h3⟩ := conv_bd h
  have h4 := conv_ne h
  obtain ⟨j, rfl⟩ := Int.eq_ofNat_of_zero_le (show 0 ≤ k by omega)
  obtain ⟨i, rfl⟩ := Int.eq_ofNat_of_zero_le h2
  have hh := sw24 b j i T C N Y ta zs.length tc w (by omega) (by omega)
  rw [letZ i (by omega) (by omega), letK j (by omega)] at hh
  exact hh
theorem spw25 (k a b : Int) (T C N Y : ByteArray) (v : Value) (zs : List Int) (w : World) (ht : Tab w v zs) (hz : zs.length ≤ 1048576) (ha : B64 a) (hT : T.size ≤ 1048576) (h : contS 25 k a b T C N Y zs 400 40 = true) : SpecWords 25 k a b T C N Y v zs w := by
  obtain ⟨ta, tc, rfl⟩ := ht.form
  have h : wthn a 400 = true := h
  exact sw25 k a b T C N Y ta zs.length tc w ha
theorem spw26 (k a b : Int) (T C N Y : ByteArray) (v : Value) (zs : List Int) (w : World) (ht : Tab w v zs) (hz : zs.length ≤ 1048576) (ha : B64 a) (hT : T.size ≤ 1048576) (h : contS 26 k a b T C N Y zs 400 40 = true) : SpecWords 26 k a b T C N Y v zs w := by
  obtain ⟨ta, tc, rfl⟩ := ht.form
  have h : (wthn a 400 && betw b 1 6) = true := h
  simp only [betw, wthn, Bool.and_eq_true, decide_eq_true_eq] at h
  obtain ⟨j, rfl⟩ := Int.eq_ofNat_of_zero_le (show 0 ≤ b by omega)
  exact sw26 k a j T C N Y ta zs.length tc w (by omega) ha
theorem spw27 (k a b : Int) (T C N Y : ByteArray) (v : Value) (zs : List Int) (w : World) (ht : Tab w v zs) (hz : zs.length ≤ 1048576) (ha : B64 a) (hT : T.size ≤ 1048576) (h : contS 27 k a b T C N Y zs 400 40 = true) : SpecWords 27 k a b T C N Y v zs w := by
  obtain ⟨ta, tc, rfl⟩ := ht.form
  have h : (wthn a 400 && betw b 1 6) = true := h
  simp only [betw, wthn, Bool.and_eq_true, decide_eq_true_eq] at h
  obtain ⟨j, rfl⟩ := Int.eq_ofNat_of_zero_le (show 0 ≤ b by omega)
  exact sw27 k a j T C N Y ta zs.length tc w (by omega) ha
theorem spw28 (k a b : Int) (T C N Y : ByteArray) (v : Value) (zs : List Int) (w : World) (ht : Tab w v zs) (hz : zs.length ≤ 1048576) (ha : B64 a) (hT : T.size ≤ 1048576) (h : contS 28 k a b T C N Y zs 400 40 = true) : SpecWords 28 k a b T C N Y v zs w := by
  obtain ⟨ta, tc, rfl⟩ := ht.form
  have h : (wthn a 400 && betw b 1 2) = true := h
  simp only [betw, wthn, Bool.and_eq_true, decide_eq_true_eq] at h
  obtain ⟨j, rfl⟩ := Int.eq_ofNat_of_zero_le (show 0 ≤ b by omega)
  exact sw28 k a j T C N Y ta zs.length tc w (by omega) ha
theorem spw29 (k a b : Int) (T C N Y : ByteArray) (v : Value) (zs : List Int) (w : World) (ht : Tab w v zs) (hz : zs.length ≤ 1048576) (ha : B64 a) (hT : T.size ≤ 1048576) (h : contS 29 k a b T C N Y zs 400 40 = true) : SpecWords 29 k a b T C N Y v zs w := by
  obtain ⟨ta, tc, rfl⟩ := ht.form
  have h : (wthn a 400 && betw b 1 2) = true := h
  simp only [betw, wthn, Bool.and_eq_true, decide_eq_true_eq] at h
  obtain ⟨j, rfl⟩ := Int.eq_ofNat_of_zero_le (show 0 ≤ b by omega)
  exact sw29 k a j T C N Y ta zs.length tc w (by omega) ha
theorem spw30 (k a b : Int) (T C N Y : ByteArray) (v : Value) (zs : List Int) (w : World) (ht : Tab w v zs) (hz : zs.length ≤ 1048576) (ha : B64 a) (hT : T.size ≤ 1048576) (h : contS 30 k a b T C N Y zs 400 40 = true) : SpecWords 30 k a b T C N Y v zs w := by
  have hl := let30 k a b T C N Y zs ha hT h
  obtain ⟨ta, tc, rfl⟩ := ht.form
  have hb : B64 b := by
    rcases hl 78 (by simp) with h | h | h | h | h | h | h | h | h | h | h | h | h | h | h <;> first | exact h.2 | (exfalso; revert h; simp)
  have hzz : ∀ z ∈ zs, B64 z := by
    rcases hl 76 (by simp) with h | h | h | h | h | h | h | h | h | h | h | h | h | h | h <;> first | exact h.2.2 | (exfalso; revert h; simp)
  have e : wordsL 30 k a b T C N Y zs = wordAt opsT 30 :: Lib.itoa b :: Lib.itoa a :: zs.map Lib.itoa := by
    show _ :: (_ :: (_ :: (zs.map Lib.itoa ++ []))) = _
    rw [List.append_nil]; rfl
  unfold SpecWords
  rw [e]; exact sw30 k a b T C N Y ta zs.length tc w zs ha hb hz hzz ht rfl
theorem spw31 (k a b : Int) (T C N Y : ByteArray) (v : Value) (zs : List Int) (w : World) (ht : Tab w v zs) (hz : zs.length ≤ 1048576) (ha : B64 a) (hT : T.size ≤ 1048576) (h : contS 31 k a b T C N Y zs 400 40 = true) : SpecWords 31 k a b T C N Y v zs w := by
  obtain ⟨ta, tc, rfl⟩ := ht.form
  have hb : b = 0 ∨ b = 1 := by
    have h : (nameOk C.data.toList && nameOk N.data.toList && typeL Y.data.toList && betw b 0 1) = true := h
    simp only [betw, Bool.and_eq_true, decide_eq_true_eq] at h
    omega
  rcases hb with rfl | rfl
  · exact sw31z k a T C N Y ta zs.length tc w
  · exact sw31s k a T C N Y ta zs.length tc w
theorem spw32 (k a b : Int) (T C N Y : ByteArray) (v : Value) (zs : List Int) (w : World) (ht : Tab w v zs) (hz : zs.length ≤ 1048576) (ha : B64 a) (hT : T.size ≤ 1048576) (h : contS 32 k a b T C N Y zs 400 40 = true) : SpecWords 32 k a b T C N Y v zs w := by
  obtain ⟨ta, tc, rfl⟩ := ht.form
  have hb : b = 0 ∨ b = 1 := by
    have h : (nameOk C.data.toList && nameOk N.data.toList && typeL Y.data.toList && betw b 0 1) = true := h
    simp only [betw, Bool.and_eq_true, decide_eq_true_eq] at h
    omega
  rcases hb with rfl | rfl
  · exact sw32z k a T C N Y ta zs.length tc w
  · exact sw32s k a T C N Y ta zs.length tc w
theorem spw33 (k a b : Int) (T C N Y : ByteArray) (v : Value) (zs : List Int) (w : World) (ht : Tab w v zs) (hz : zs.length ≤ 1048576) (ha : B64 a) (hT : T.size ≤ 1048576) (h : contS 33 k a b T C N Y zs 400 40 = true) : SpecWords 33 k a b T C N Y v zs w := by
  obtain ⟨ta, tc, rfl⟩ := ht.form
  have h : (nameOk C.data.toList && nameOk N.data.toList && sigOk Y.data.toList && betw b 1 4) = true := h
  simp only [betw, Bool.and_eq_true, decide_eq_true_eq] at h
  obtain ⟨j, rfl⟩ := Int.eq_ofNat_of_zero_le (show 0 ≤ b by omega)
  exact sw33 k a j T C N Y ta zs.length tc w (by omega)
theorem spw34 (k a b : Int) (T C N Y : ByteArray) (v : Value) (zs : List Int) (w : World) (ht : Tab w v zs) (hz : zs.length ≤ 1048576) (ha : B64 a) (hT : T.size ≤ 1048576) (h : contS 34 k a b T C N Y zs 400 40 = true) : SpecWords 34 k a b T C N Y v zs w := by
  obtain ⟨ta, tc, rfl⟩ := ht.form
  exact sw34 k a b T C N Y ta zs.length tc w
theorem spw35 (k a b : Int) (T C N Y : ByteArray) (v : Value) (zs : List Int) (w : World) (ht : Tab w v zs) (hz : zs.length ≤ 1048576) (ha : B64 a) (hT : T.size ≤ 1048576) (h : contS 35 k a b T C N Y zs 400 40 = true) : SpecWords 35 k a b T C N Y v zs w := by
  obtain ⟨ta, tc, rfl⟩ := ht.form
  exact sw35 k a b T C N Y ta zs.length tc w
theorem spw36 (k a b : Int) (T C N Y : ByteArray) (v : Value) (zs : List Int) (w : World) (ht : Tab w v zs) (hz : zs.length ≤ 1048576) (ha : B64 a) (hT : T.size ≤ 1048576) (h : contS 36 k a b T C N Y zs 400 40 = true) : SpecWords 36 k a b T C N Y v zs w := by
  obtain ⟨ta, tc, rfl⟩ := ht.form
  exact sw36 k a b T C N Y ta zs.length tc w
theorem spw37 (k a b : Int) (T C N Y : ByteArray) (v : Value) (zs : List Int) (w : World) (ht : Tab w v zs) (hz : zs.length ≤ 1048576) (ha : B64 a) (hT : T.size ≤ 1048576) (h : contS 37 k a b T C N Y zs 400 40 = true) : SpecWords 37 k a b T C N Y v zs w := by
  obtain ⟨ta, tc, rfl⟩ := ht.form
  have h : betw k 1 4 = true := h
  simp only [betw, Bool.and_eq_true, decide_eq_true_eq] at h
  obtain ⟨j, rfl⟩ := Int.eq_ofNat_of_zero_le (show 0 ≤ k by omega)
  have hh := sw37 a b j T C N Y ta zs.length tc w (by omega)
  rw [letK j (by omega)] at hh
  exact hh
theorem spw38 (k a b : Int) (T C N Y : ByteArray) (v : Value) (zs : List Int) (w : World) (ht : Tab w v zs) (hz : zs.length ≤ 1048576) (ha : B64 a) (hT : T.size ≤ 1048576) (h : contS 38 k a b T C N Y zs 400 40 = true) : SpecWords 38 k a b T C N Y v zs w := by
  obtain ⟨ta, tc, rfl⟩ := ht.form
  have h : betw k 1 4 = true := h
  simp only [betw, Bool.and_eq_true, decide_eq_true_eq] at h
  obtain ⟨j, rfl⟩ := Int.eq_ofNat_of_zero_le (show 0 ≤ k by omega)
  have hh := sw38 a b j T C N Y ta zs.length tc w (by omega)
  rw [letK j (by omega)] at hh
  exact hh
theorem spw39 (k a b : Int) (T C N Y : ByteArray) (v : Value) (zs : List Int) (w : World) (ht : Tab w v zs) (hz : zs.length ≤ 1048576) (ha : B64 a) (hT : T.size ≤ 1048576) (h : contS 39 k a b T C N Y zs 400 40 = true) : SpecWords 39 k a b T C N Y v zs w := by
  obtain ⟨ta, tc, rfl⟩ := ht.form
  exact sw39 k a b T C N Y ta zs.length tc w
theorem spw40 (k a b : Int) (T C N Y : ByteArray) (v : Value) (zs : List Int) (w : World) (ht : Tab w v zs) (hz : zs.length ≤ 1048576) (ha : B64 a) (hT : T.size ≤ 1048576) (h : contS 40 k a b T C N Y zs 400 40 = true) : SpecWords 40 k a b T C N Y v zs w := by
  obtain ⟨ta, tc, rfl⟩ := ht.form
  exact sw40 k a b T C N Y ta zs.length tc w
theorem spw41 (k a b : Int) (T C N Y : ByteArray) (v : Value) (zs : List Int) (w : World) (ht : Tab w v zs) (hz : zs.length ≤ 1048576) (ha : B64 a) (hT : T.size ≤ 1048576) (h : contS 41 k a b T C N Y zs 400 40 = true) : SpecWords 41 k a b T C N Y v zs w := by
  obtain ⟨ta, tc, rfl⟩ := ht.form
  exact sw41 k a b T C N Y ta zs.length tc w
theorem spw42 (k a b : Int) (T C N Y : ByteArray) (v : Value) (zs : List Int) (w : World) (ht : Tab w v zs) (hz : zs.length ≤ 1048576) (ha : B64 a) (hT : T.size ≤ 1048576) (h : contS 42 k a b T C N Y zs 400 40 = true) : SpecWords 42 k a b T C N Y v zs w := by
  obtain ⟨ta, tc, rfl⟩ := ht.form
  exact sw42 k a b T C N Y ta zs.length tc w
theorem spw43 (k a b : Int) (T C N Y : ByteArray) (v : Value) (zs : List Int) (w : World) (ht : Tab w v zs) (hz : zs.length ≤ 1048576) (ha : B64 a) (hT : T.size ≤ 1048576) (h : contS 43 k a b T C N Y zs 400 40 = true) : SpecWords 43 k a b T C N Y v zs w := by
  obtain ⟨ta, tc, rfl⟩ := ht.form
  exact sw43 k a b T C N Y ta zs.length tc w
theorem spw44 (k a b : Int) (T C N Y : ByteArray) (v : Value) (zs : List Int) (w : World) (ht : Tab w v zs) (hz : zs.length ≤ 1048576) (ha : B64 a) (hT : T.size ≤ 1048576) (h : contS 44 k a b T C N Y zs 400 40 = true) : SpecWords 44 k a b T C N Y v zs w := by
  obtain ⟨ta, tc, rfl⟩ := ht.form
  have h : betw k 0 4 = true := h
  simp only [betw, Bool.and_eq_true, decide_eq_true_eq] at h
  obtain ⟨j, rfl⟩ := Int.eq_ofNat_of_zero_le (show 0 ≤ k by omega)
  by_cases hj : j = 0
  · subst hj
    exact sw44z a b T C N Y ta zs.length tc w
  · have hh := sw44 a b j T C N Y ta zs.length tc w (by omega) (by omega)
    rw [letK j (by omega)] at hh
    have e : wordsL 44 (j : Int) a b T C N Y zs = wordAt opsT 44 :: [wordAt kindT j] := by
      show _ :: ((if (j : Int) = 0 then [] else [wordAt kindT j]) ++ []) = _
      rw [if_neg (by omega)]; rfl
    unfold SpecWords
    rw [e]; exact hh
end Go.Proofs.YtcencddbdidjjaaGreatDoor

/- spec.ShowIns: what it answers. -/
namespace Go.Proofs.YtcencddbdidjjaaGreatDoor
set_option linter.unusedVariables false
open Go.ChangeShapes Go.WideShapes Go.ChangeAt Go.RowKit

theorem spec_words {o k a b : Int} {T C N Y : ByteArray} {v : Value} {zs : List Int} {w : World} (ht : Tab w v zs) (hz : zs.length ≤ 1048576) (ha : B64 a) (hT : T.size ≤ 1048576) (h : contS o k a b T C N Y zs 400 40 = true) : SpecWords o k a b T C N Y v zs w := by
  obtain ⟨h1, h2⟩ := cont_op h
  rcases (show o = 1 ∨ o = 2 ∨ o = 3 ∨ o = 4 ∨ o = 5 ∨ o = 6 ∨ o = 7 ∨ o = 8 ∨ o = 9 ∨ o = 10 ∨ o = 11 ∨ o = 12 ∨ o = 13 ∨ o = 14 ∨ o = 15 ∨ o = 16 ∨ o = 17 ∨ o = 18 ∨ o = 19 ∨ o = 20 ∨ o = 21 ∨ o = 22 ∨ o = 23 ∨ o = 24 ∨ o = 25 ∨ o = 26 ∨ o = 27 ∨ o = 28 ∨ o = 29 ∨ o = 30 ∨ o = 31 ∨ o = 32 ∨ o = 33 ∨ o = 34 ∨ o = 35 ∨ o = 36 ∨ o = 37 ∨ o = 38 ∨ o = 39 ∨ o = 40 ∨ o = 41 ∨ o = 42 ∨ o = 43 ∨ o = 44 by omega) with rfl | rfl | rfl | rfl | rfl | rfl | rfl | rfl | rfl | rfl | rfl | rfl | rfl | rfl | rfl | rfl | rfl | rfl | rfl | rfl | rfl | rfl | rfl | rfl | rfl | rfl | rfl | rfl | rfl | rfl | rfl | rfl | rfl | rfl | rfl | rfl | rfl | rfl | rfl | rfl | rfl | rfl | rfl | rfl
  · exact spw1 k a b T C N Y v zs w ht hz ha hT h
  · exact spw2 k a b T C N Y v zs w ht hz ha hT h
  · exact spw3 k a b T C N Y v zs w ht hz ha hT h
  · exact spw4 k a b T C N Y v zs w ht hz ha hT h
  · exact spw5 k a b T C N Y v zs w ht hz ha hT h
  · exact spw6 k a b T C N Y v zs w ht hz ha hT h
  · exact spw7 k a b T C N Y v zs w ht hz ha hT h
  · exact spw8 k a b T C N Y v zs w ht hz ha hT h
  · exact spw9 k a b T C N Y v zs w ht hz ha hT h
  · exact spw10 k a b T C N Y v zs w ht hz ha hT h
  · exact spw11 k a b T C N Y v zs w ht hz ha hT h
  · exact spw12 k a b T C N Y v zs w ht hz ha hT h
  · exact spw13 k a b T C N Y v zs w ht hz ha hT h
  · exact spw14 k a b T C N Y v zs w ht hz ha hT h
  · exact spw15 k a b T C N Y v zs w ht hz ha hT h
  · exact spw16 k a b T C N Y v zs w ht hz ha hT h
  · exact spw17 k a b T C N Y v zs w ht hz ha hT h
  · exact spw18 k a b T C N Y v zs w ht hz ha hT h
  · exact spw19 k a b T C N Y v zs w ht hz ha hT h
  · exact spw20 k a b T C N Y v zs w ht hz ha hT h
  · exact spw21 k a b T C N Y v zs w ht hz ha hT h
  · exact spw22 k a b T C N Y v zs w ht hz ha hT h
  · exact spw23 k a b T C N Y v zs w ht hz ha hT h
  · exact spw24 k a b T C N Y v zs w ht hz ha hT h
  · exact spw25 k a b T C N Y v zs w ht hz ha hT h
  · exact spw26 k a b T C N Y v zs w ht hz ha hT h
  · exact spw27 k a b T C N Y v zs w ht hz ha hT h
  · exact spw28 k a b T C N Y v zs w ht hz ha hT h
  · exact spw29 k a b T C N Y v zs w ht hz ha hT h
  · exact spw30 k a b T C N Y v zs w ht hz ha hT h
  · exact spw31 k a b T C N Y v zs w ht hz ha hT h
  · exact spw32 k a b T C N Y v zs w ht hz ha hT h
  · exact spw33 k a b T C N Y v zs w ht hz ha hT h
  · exact spw34 k a b T C N Y v zs w ht hz ha hT h
  · exact spw35 k a b T C N Y v zs w ht hz ha hT h
  · exact spw36 k a b T C N Y v zs w ht hz ha hT h
  · exact spw37 k a b T C N Y v zs w ht hz ha hT h
  · exact spw38 k a b T C N Y v zs w ht hz ha hT h
  · exact spw39 k a b T C N Y v zs w ht hz ha hT h
  · exact spw40 k a b T C N Y v zs w ht hz ha hT h
  · exact spw41 k a b T C N Y v zs w ht hz ha hT h
  · exact spw42 k a b T C N Y v zs w ht hz ha hT h
  · exact spw43 k a b T C N Y v zs w ht hz ha hT h
  · exact spw44 k a b T C N Y v zs w ht hz ha hT h

theorem words_each {o k a b : Int} {T C N Y : ByteArray} {zs : List Int} (ha : B64 a) (hT : T.size ≤ 1048576) (hC : C.size ≤ 1048576) (hN : N.size ≤ 1048576) (hY : Y.size ≤ 1048576) (h : ∀ c ∈ (theRow o b rowsT).ops, letOk k a b T zs c) : ∀ p ∈ wordsL o k a b T C N Y zs, p.length ≤ 4000000 := by
  intro p hp
  unfold wordsL at hp
  rcases List.mem_cons.1 hp with rfl | hp
  · rcases theRow_mem o b rowsT with e | e
    · rw [e]; simp [noRow]
    · exact rows_word _ (List.mem_map_of_mem e)
  · obtain ⟨c, hc, hp⟩ := List.mem_flatMap.1 hp
    exact opnd_word k a b T C N Y zs c (h c hc) ha hT hC hN hY p hp

set_option maxRecDepth 1000000 in
set_option maxHeartbeats 4000000 in
theorem specShowIns_calls (o k a b : Int) (T C N Y : ByteArray) (v : Value) (zs : List Int) (w : World) (ht : Tab w v zs) (hz : zs.length ≤ 1048576)
    (ha1 : -9223372036854775808 ≤ a) (ha2 : a < 9223372036854775808) (hT : T.size ≤ 1048576) (hC : C.size ≤ 1048576) (hN : N.size ≤ 1048576) (hY : Y.size ≤ 1048576) :
    Calls Tryz.prog 5 #[insV o k a b T C N Y v] w fun e w' => e = .returned (.string (mkS (showI o k a b T C N Y zs))) ∧ Below w.heap.size w w' := by
  have c10 : Hid (∀ W, Below w.heap.size w W → Calls Tryz.prog 10 #[insV o k a b T C N Y v, .int .i64 400, .int .i64 40] W fun e w' => e = .returned (.bool (insB o k a b T C N Y zs 400 40)) ∧ Below W.heap.size W w') :=
    fun W hW => specIns_calls o k a b 400 40 T C N Y v zs W (ht.kept hW) hz hT hC hN hY
  have c12 : Hid (insB o k a b T C N Y zs 400 40 = true → ∀ W, Below w.heap.size w W → Calls Tryz.prog 12 #[insV o k a b T C N Y v] W fun e w' => ∃ v, e = .returned v ∧ WordsAt W.heap.size w' v (wordsL o k a b T C N Y zs) ∧ Below W.heap.size W w') := fun hb W hW => by
    have hc : contS o k a b T C N Y zs 400 40 = true := by unfold insB at hb; simp only [Bool.and_eq_true] at hb; exact hb.2
    exact spec_words (ht.kept hW) hz ⟨ha1, ha2⟩ hT hc
  have hbd : Hid (insB o k a b T C N Y zs 400 40 = true → (wordsL o k a b T C N Y zs).length ≤ 5000000 ∧ ∀ p ∈ wordsL o k a b T C N Y zs, p.length ≤ 4000000) := fun hb => by
    have hc : contS o k a b T C N Y zs 400 40 = true := by unfold insB at hb; simp only [Bool.and_eq_true] at hb; exact hb.2
    have hl := ins_let ⟨ha1, ha2⟩ hT hc
    exact ⟨(words_bd hz ⟨ha1, ha2⟩ hT hC hN hY hl).1, words_each ⟨ha1, ha2⟩ hT hC hN hY hl⟩
  obtain ⟨ta, tc, rfl⟩ := ht.form
  obtain ⟨n, hn⟩ : ∃ n, n = zs.length := ⟨_, rfl⟩
  rw [← hn] at c10 c12 ⊢
  clear ht hz ha1 ha2 hT hC hN hY hn
  unfold showI
  obtain ⟨x, hx⟩ : ∃ x, insB o k a b T C N Y zs 400 40 = x := ⟨_, rfl⟩
  rw [hx] at c10 c12 hbd ⊢
  clear hx
  obtain ⟨J, hJ⟩ : ∃ J, Lib.join (wordsL o k a b T C N Y zs) [32] = J := ⟨_, rfl⟩
  rw [hJ]
  have hJH : Hid (Lib.join (wordsL o k a b T C N Y zs) [32] = J) := hJ
  clear hJ
  have hb1 : Hid (Below w.heap.size w (w.alloc (.cells #[.int .i64 o, .int .i64 k, .int .i64 a, .int .i64 b, .string T, .string C, .string N, .string Y, .slice ta n tc] 27))) := (Below.refl _ _).alloc (Nat.le_refl _) _
  have hin : Hid ((w.alloc (.cells #[.int .i64 o, .int .i64 k, .int .i64 a, .int .i64 b, .string T, .string C, .string N, .string Y, .slice ta n tc] 27)).heap[w.heap.size]? = some (.cells #[.int .i64 o, .int .i64 k, .int .i64 a, .int .i64 b, .string T, .string C, .string N, .string Y, .slice ta n tc] 27 (0, 0))) := heap_alloc_last w _
  go_enter Tryz.func5, Tryz.ntmps5
  go_wp2_with (go_at_call 10; fail)
  refine (c10.out _ hb1.out).mono ?_
  rintro e W2 ⟨rfl, hb2⟩
  have hB2 : Hid (Below w.heap.size w W2) := hb1.out.trans (hb2.mono hb1.out.size)
  have hin2 : W2.heap[w.heap.size]? = some (.cells #[.int .i64 o, .int .i64 k, .int .i64 a, .int .i64 b, .string T, .string C, .string N, .string Y, .slice ta n tc] 27 (0, 0)) := by rw [hb2.block _ (Array.getElem?_eq_some_iff.1 hin.out).1]; exact hin.out
  have i0 : W2.cell? ⟨w.heap.size, 0, none⟩ = some (.int .i64 o) := by simp [World.cell?, hin2]
  have i1 : W2.cell? ⟨w.heap.size, 1, none⟩ = some (.int .i64 k) := by simp [World.cell?, hin2]
  have i2 : W2.cell? ⟨w.heap.size, 2, none⟩ = some (.int .i64 a) := by simp [World.cell?, hin2]
  have i3 : W2.cell? ⟨w.heap.size, 3, none⟩ = some (.int .i64 b) := by simp [World.cell?, hin2]
  have i4 : W2.cell? ⟨w.heap.size, 4, none⟩ = some (.string T) := by simp [World.cell?, hin2]
  have i5 : W2.cell? ⟨w.heap.size, 5, none⟩ = some (.string C) := by simp [World.cell?, hin2]
  have i6 : W2.cell? ⟨w.heap.size, 6, none⟩ = some (.string N) := by simp [World.cell?, hin2]
  have i7 : W2.cell? ⟨w.heap.size, 7, none⟩ = some (.string Y) := by simp [World.cell?, hin2]
  have i8 : W2.cell? ⟨w.heap.size, 8, none⟩ = some (.slice ta n tc) := by simp [World.cell?, hin2]
  clear hin2 hb2
  cases x with
  | false =>
    go_wp2
    go_ret
    exact ⟨rfl, hB2.out⟩
  | true =>
    go_wp2_with (go_at_call 12; fail)
    refine (c12.out (by first | trivial | rfl) _ hB2.out).mono ?_
    rintro e W3 ⟨v3, rfl, hv3, hb3⟩
    obtain ⟨g, cap, hv, hBg, hg, hcap, hmx, hcells⟩ := hv3.cells (by unfold wordsL; simp)
    obtain ⟨m, hm⟩ : ∃ m, m = (wordsL o k a b T C N Y zs).length := ⟨_, rfl⟩
    rw [← hm] at hv
    subst hv
    have hB3 : Hid (Below w.heap.size w W3) := hB2.out.trans (hb3.mono hB2.out.size)
    have hm2 : m ≤ 5000000 := by have := (hbd.out (by first | trivial | rfl)).1; omega
    have hl11 : Hid (Calls Tryz.prog 11 #[.slice (some ⟨g, 0, none⟩) m cap] W3 fun e w' => e = .returned (.string (mkS J)) ∧ Below W3.heap.size W3 w') := by
      show Calls _ _ _ _ _
      rw [← hJH.out]
      exact join_calls g m cap _ W3 hm hm2 (hbd.out (by first | trivial | rfl)).2 hcells
    clear hm hm2 hcells hv3 hb3 hmx hcap hBg hg
    go_wp2_with (go_at_call 11; refine hl11.out.mono ?_; rintro e W4 ⟨rfl, hb4⟩)
    go_ret
    exact ⟨rfl, hB3.out.trans (hb4.mono hB3.out.size)⟩
end Go.Proofs.YtcencddbdidjjaaGreatDoor

/- The law of ShowIns, walked: it answers true of every instruction. -/
namespace Go.Proofs.YtcencddbdidjjaaGreatDoor
set_option linter.unusedVariables false
open Go.ChangeShapes Go.WideShapes Go.ChangeAt Go.RowKit

theorem startT {t : TypeId} {o k a b : Int} {T C N Y : ByteArray} {v : Value} {w W : World} (hW : W = w.alloc (.cells #[.int .i64 o, .int .i64 k, .int .i64 a, .int .i64 b, .string T, .string C, .string N, .string Y, v] t)) :
    W.cell? ⟨w.heap.size, 0, none⟩ = some (.int .i64 o) ∧ W.cell? ⟨w.heap.size, 1, none⟩ = some (.int .i64 k) ∧ W.cell? ⟨w.heap.size, 2, none⟩ = some (.int .i64 a) ∧ W.cell? ⟨w.heap.size, 3, none⟩ = some (.int .i64 b) ∧ W.cell? ⟨w.heap.size, 4, none⟩ = some (.string T) ∧ W.cell? ⟨w.heap.size, 5, none⟩ = some (.string C) ∧ W.cell? ⟨w.heap.size, 6, none⟩ = some (.string N) ∧ W.cell? ⟨w.heap.size, 7, none⟩ = some (.string Y) ∧ W.cell? ⟨w.heap.size, 8, none⟩ = some v := by
  have h1 : W.heap[w.heap.size]? = some (.cells #[.int .i64 o, .int .i64 k, .int .i64 a, .int .i64 b, .string T, .string C, .string N, .string Y, v] t) := by rw [hW]; exact heap_alloc_last w _
  refine ⟨?_, ?_, ?_, ?_, ?_, ?_, ?_, ?_, ?_⟩ <;> simp [World.cell?, h1]
theorem keepII {B X : Nat} {o k a b : Int} {T C N Y : ByteArray} {u v : Value} {W W' : World}
    (h : W.cell? ⟨B, 0, none⟩ = some (.int .i64 o) ∧ W.cell? ⟨B, 1, none⟩ = some (.int .i64 k) ∧ W.cell? ⟨B, 2, none⟩ = some (.int .i64 a) ∧ W.cell? ⟨B, 3, none⟩ = some (.int .i64 b) ∧ W.cell? ⟨B, 4, none⟩ = some (.string T) ∧ W.cell? ⟨B, 5, none⟩ = some (.string C) ∧ W.cell? ⟨B, 6, none⟩ = some (.string N) ∧ W.cell? ⟨B, 7, none⟩ = some (.string Y) ∧ W.cell? ⟨B, 8, none⟩ = some u ∧ W.cell? ⟨X, 0, none⟩ = some (.int .i64 o) ∧ W.cell? ⟨X, 1, none⟩ = some (.int .i64 k) ∧ W.cell? ⟨X, 2, none⟩ = some (.int .i64 a) ∧ W.cell? ⟨X, 3, none⟩ = some (.int .i64 b) ∧ W.cell? ⟨X, 4, none⟩ = some (.string T) ∧ W.cell? ⟨X, 5, none⟩ = some (.string C) ∧ W.cell? ⟨X, 6, none⟩ = some (.string N) ∧ W.cell? ⟨X, 7, none⟩ = some (.string Y) ∧ W.cell? ⟨X, 8, none⟩ = some v)
    (hb : Below W.heap.size W W') : W'.cell? ⟨B, 0, none⟩ = some (.int .i64 o) ∧ W'.cell? ⟨B, 1, none⟩ = some (.int .i64 k) ∧ W'.cell? ⟨B, 2, none⟩ = some (.int .i64 a) ∧ W'.cell? ⟨B, 3, none⟩ = some (.int .i64 b) ∧ W'.cell? ⟨B, 4, none⟩ = some (.string T) ∧ W'.cell? ⟨B, 5, none⟩ = some (.string C) ∧ W'.cell? ⟨B, 6, none⟩ = some (.string N) ∧ W'.cell? ⟨B, 7, none⟩ = some (.string Y) ∧ W'.cell? ⟨B, 8, none⟩ = some u ∧ W'.cell? ⟨X, 0, none⟩ = some (.int .i64 o) ∧ W'.cell? ⟨X, 1, none⟩ = some (.int .i64 k) ∧ W'.cell? ⟨X, 2, none⟩ = some (.int .i64 a) ∧ W'.cell? ⟨X, 3, none⟩ = some (.int .i64 b) ∧ W'.cell? ⟨X, 4, none⟩ = some (.string T) ∧ W'.cell? ⟨X, 5, none⟩ = some (.string C) ∧ W'.cell? ⟨X, 6, none⟩ = some (.string N) ∧ W'.cell? ⟨X, 7, none⟩ = some (.string Y) ∧ W'.cell? ⟨X, 8, none⟩ = some v := by
  obtain ⟨h1, h2, h3, h4, h5, h6, h7, h8, h9, g1, g2, g3, g4, g5, g6, g7, g8, g9⟩ := h
  have k : ∀ (p : Addr) (v : Value), W.cell? p = some v → W'.cell? p = some v := fun p v hv => keep1 hv hb
  exact ⟨k _ _ h1, k _ _ h2, k _ _ h3, k _ _ h4, k _ _ h5, k _ _ h6, k _ _ h7, k _ _ h8, k _ _ h9, k _ _ g1, k _ _ g2, k _ _ g3, k _ _ g4, k _ _ g5, k _ _ g6, k _ _ g7, k _ _ g8, k _ _ g9⟩

set_option maxRecDepth 1000000 in
set_option maxHeartbeats 4000000 in
theorem lawShow_calls (o k a b : Int) (T C N Y : ByteArray) (v : Value) (zs : List Int) (w : World) (ht : TabIn w v zs) (hz : zs.length ≤ 9223372036854775807)
    (ha1 : -9223372036854775808 ≤ a) (ha2 : a < 9223372036854775808) (hT : T.size ≤ 9223372036854775807) (hC : C.size ≤ 9223372036854775807) (hN : N.size ≤ 9223372036854775807) (hY : Y.size ≤ 9223372036854775807) (hsh : w.ShapedOpen Tryz.prog) (he : Env w) :
    Calls Tryz.prog 3 #[insV o k a b T C N Y v] w fun e w' => e = .returned (.bool true) ∧ Below w.heap.size w w' := by
  have htH : Hid (∀ W, Below w.heap.size w W → TabIn W v zs) := fun W hW => ht.kept hW
  have heH : Hid (∀ W, Below w.heap.size w W → Env W) := fun W hW => he.kept hW
  have hshH : Hid (∀ W, Below w.heap.size w W → W.ShapedOpen Tryz.prog) := fun W hW => shaped_below hsh hW
  obtain ⟨ta, c, hv⟩ := ht.form
  subst hv
  obtain ⟨n, hn⟩ : ∃ n, n = zs.length := ⟨_, rfl⟩
  have hnH : Hid (n = zs.length) := hn
  rw [← hn] at htH hz ⊢
  clear ht hsh hn he
  go_enter Tryz.func3, Tryz.ntmps3
  go_wp2_with fail
  obtain ⟨W, hW⟩ : ∃ W : World, W = w.alloc (.cells #[.int .i64 o, .int .i64 k, .int .i64 a, .int .i64 b, .string T, .string C, .string N, .string Y, .slice ta n c] 24) := ⟨_, rfl⟩
  rw [← hW]
  have hbW : Below w.heap.size w W := by rw [hW]; exact below1 _ _
  have hS := startT hW
  clear hW
  refine (szIns_calls o k a b T C N Y ta n c W hT hC hN hY hz).mono ?_
  rintro e w1 ⟨⟨r, rfl, hr⟩, hb1⟩
  have hB1 : Hid (Below w.heap.size w w1) := below_below hbW hb1
  have hS1 := keepI hS hb1
  obtain ⟨s0, s1, s2, s3, s4, s5, s6, s7, s8⟩ := hS1
  have hrH : Hid (r < 0 ∨ T.size + C.size + N.size + Y.size + n ≤ 1048576) := hr
  clear hS hbW hb1 hr
  by_cases hr0 : r < 0
  · go_wp2
    go_ret
    exact ⟨rfl, hB1.out⟩
  have htot : T.size + C.size + N.size + Y.size + n ≤ 1048576 := by rcases hrH.out with h | h <;> omega
  have hsH : Hid (T.size ≤ 1048576 ∧ C.size ≤ 1048576 ∧ N.size ≤ 1048576 ∧ Y.size ≤ 1048576 ∧ zs.length ≤ 1048576) := ⟨by omega, by omega, by omega, by omega, by rw [← hnH.out]; omega⟩
  clear hrH htot hT hC hN hY hz
  go_wp2_with fail
  refine (toIns_calls o k a b T C N Y _ zs w1 (htH.out _ hB1.out) hsH.out.2.2.2.2).mono ?_
  rintro e w2 ⟨u2, rfl, htab2, hb2⟩
  have hB2 : Hid (Below w.heap.size w w2) := below_below hB1.out hb2
  have hS2 := keepI ⟨s0, s1, s2, s3, s4, s5, s6, s7, s8⟩ hb2
  clear s0 s1 s2 s3 s4 s5 s6 s7 s8
  obtain ⟨s0, s1, s2, s3, s4, s5, s6, s7, s8⟩ := hS2
  have htab2H : Hid (Tab w2 u2 zs) := htab2
  clear htab2 hb2 hB1
  go_wp2_with fail
  refine (specShowIns_calls o k a b T C N Y u2 zs w2 htab2H.out hsH.out.2.2.2.2 ha1 ha2 hsH.out.1 hsH.out.2.1 hsH.out.2.2.1 hsH.out.2.2.2.1).mono ?_
  rintro e w3 ⟨rfl, hb3⟩
  have hB3 : Hid (Below w.heap.size w w3) := below_below hB2.out hb3
  have hS3 := keepI ⟨s0, s1, s2, s3, s4, s5, s6, s7, s8⟩ hb3
  clear s0 s1 s2 s3 s4 s5 s6 s7 s8
  obtain ⟨s0, s1, s2, s3, s4, s5, s6, s7, s8⟩ := hS3
  clear hb3 hB2 htab2H
  obtain ⟨x, hx⟩ : ∃ x, mkS (showI o k a b T C N Y zs) = x := ⟨_, rfl⟩
  rw [hx]
  have hxH : Hid (mkS (showI o k a b T C N Y zs) = x) := hx
  clear hx
  go_wp2_with fail
  refine (toIns_calls o k a b T C N Y _ zs w3 (htH.out _ hB3.out) hsH.out.2.2.2.2).mono ?_
  rintro e w4 ⟨u4, rfl, htab4, hb4⟩
  have hB4 : Hid (Below w.heap.size w w4) := below_below hB3.out hb4
  have hS4 := keepI ⟨s0, s1, s2, s3, s4, s5, s6, s7, s8⟩ hb4
  clear s0 s1 s2 s3 s4 s5 s6 s7 s8
  obtain ⟨s0, s1, s2, s3, s4, s5, s6, s7, s8⟩ := hS4
  obtain ⟨ua, uc, hu⟩ := htab4.form
  subst hu
  rw [← hnH.out] at htab4 ⊢
  have htab4H : Hid (Tab w4 (.slice ua n uc) zs) := htab4
  clear htab4 hb4 hB3
  go_wp2_with fail
  obtain ⟨V, hV⟩ : ∃ V : World, V = w4.alloc (.cells #[.int .i64 o, .int .i64 k, .int .i64 a, .int .i64 b, .string T, .string C, .string N, .string Y, .slice ua n uc] 27) := ⟨_, rfl⟩
  rw [← hV]
  have hbV : Below w4.heap.size w4 V := by rw [hV]; exact below1 _ _
  have hBV : Below w.heap.size w V := below_below hB4.out hbV
  have hSV := startT hV
  have hSW := keepI ⟨s0, s1, s2, s3, s4, s5, s6, s7, s8⟩ hbV
  clear s0 s1 s2 s3 s4 s5 s6 s7 s8 hV
  refine (implShowIns_calls o k a b T C N Y _ zs V (htab4H.out.kept hbV) hsH.out.2.2.2.2 ha1 ha2 hsH.out.1 hsH.out.2.1 hsH.out.2.2.1 hsH.out.2.2.2.1 (hshH.out V hBV) (heH.out V hBV)).mono ?_
  rintro e w6 ⟨rfl, hb6⟩
  rw [hxH.out]
  have hB6 : Hid (Below w.heap.size w w6) := below_below hBV hb6
  have htab6 : Hid (Tab w6 (.slice ua n uc) zs) := (htab4H.out.kept hbV).kept hb6
  have hS6 := keepI hSW hb6
  have hX6 := keepI hSV hb6
  clear hSW hSV hb6 hBV hbV htab4H hB4 hxH hshH heH
  generalize w4.heap.size = X at *
  obtain ⟨s0, s1, s2, s3, s4, s5, s6, s7, s8⟩ := hS6
  obtain ⟨x0, x1, x2, x3, x4, x5, x6, x7, x8⟩ := hX6
  go_wp2_with fail
  have htK : Hid (∀ W, Below w6.heap.size w6 W → TabIn W (.slice ta n c) zs) := fun W hW => htH.out _ (below_below hB6.out hW)
  go_region_held3 (fun W' => W'.cell? ⟨w.heap.size, 0, none⟩ = some (.int .i64 o) ∧ W'.cell? ⟨w.heap.size, 1, none⟩ = some (.int .i64 k) ∧ W'.cell? ⟨w.heap.size, 2, none⟩ = some (.int .i64 a) ∧ W'.cell? ⟨w.heap.size, 3, none⟩ = some (.int .i64 b) ∧ W'.cell? ⟨w.heap.size, 4, none⟩ = some (.string T) ∧ W'.cell? ⟨w.heap.size, 5, none⟩ = some (.string C) ∧ W'.cell? ⟨w.heap.size, 6, none⟩ = some (.string N) ∧ W'.cell? ⟨w.heap.size, 7, none⟩ = some (.string Y) ∧ W'.cell? ⟨w.heap.size, 8, none⟩ = some (.slice ta n c) ∧ W'.cell? ⟨X, 0, none⟩ = some (.int .i64 o) ∧ W'.cell? ⟨X, 1, none⟩ = some (.int .i64 k) ∧ W'.cell? ⟨X, 2, none⟩ = some (.int .i64 a) ∧ W'.cell? ⟨X, 3, none⟩ = some (.int .i64 b) ∧ W'.cell? ⟨X, 4, none⟩ = some (.string T) ∧ W'.cell? ⟨X, 5, none⟩ = some (.string C) ∧ W'.cell? ⟨X, 6, none⟩ = some (.string N) ∧ W'.cell? ⟨X, 7, none⟩ = some (.string Y) ∧ W'.cell? ⟨X, 8, none⟩ = some (.slice ua n uc)) (first | go_keep | (refine keepII (by assumption) (by assumption))) (first | (go_at_call 6; refine (toIns_calls o k a b T C N Y _ zs _ (htK.out _ (by first | exact Below.refl _ _ | exact belowR (Below.refl _ _))) hsH.out.2.2.2.2).mono ?_; rintro e7 w7 ⟨u7, rfl, htab7, hb7⟩) | (go_at_call 8; refine (eqIns_calls o k a b T C N Y _ _ zs _ (htab6.out.kept (by first | exact hb7 | exact belowL hb7)) htab7 hsH.out.2.2.2.2).mono ?_; rintro e8 w8 ⟨rfl, hb8⟩))
  go_wp2
  go_ret
  exact ⟨rfl, below_below (below_below hB6.out (by first | exact hb7 | exact belowL hb7)) hb8⟩
end Go.Proofs.YtcencddbdidjjaaGreatDoor
