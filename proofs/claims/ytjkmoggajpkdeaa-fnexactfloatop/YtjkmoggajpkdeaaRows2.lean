/- spec.l1Less on rows of bits: is the first number less than the second? -/
import Derived.Test.YtjkmoggajpkdeaaRows1
namespace Go.Proofs.Ytjkmoggajpkdeaa
open Go.ChangeShapes Go.WideShapes Go.ChangeAt Go.RowKit

theorem less_calls (u v : Value) (k l A B : Nat) (w : World) (hu : Row w u k A) (hv : Row w v l B) :
    Calls Try.prog 18 #[u, v] w fun e w' => e = .returned (.bool (decide (A < B))) ∧ w' = w := by
  have hau := fun i w' (hw : w' = w) => at_calls u k A i w' (by rw [hw]; exact hu)
  have hav := fun i w' (hw : w' = w) => at_calls v l B i w' (by rw [hw]; exact hv)
  obtain ⟨a, c, rfl⟩ : ∃ a c, u = .slice a k c := by
    obtain ⟨_, _, ⟨rfl, rfl⟩ | ⟨g, cap, rfl, _⟩⟩ := hu
    · exact ⟨_, _, rfl⟩
    · exact ⟨_, _, rfl⟩
  obtain ⟨b, d, rfl⟩ : ∃ b d, v = .slice b l d := by
    obtain ⟨_, _, ⟨rfl, rfl⟩ | ⟨g, cap, rfl, _⟩⟩ := hv
    · exact ⟨_, _, rfl⟩
    · exact ⟨_, _, rfl⟩
  have hk := hu.2.1
  have hl := hv.2.1
  have hA0 : Hid (∀ i, k ≤ i → A / 2 ^ i = 0) := row_beyond hu.1
  have hB0 : Hid (∀ i, l ≤ i → B / 2 ^ i = 0) := row_beyond hv.1
  have hstep : Hid (∀ j, A / 2 ^ (j + 1) = B / 2 ^ (j + 1) → _) := less_step A B
  clear hu hv
  by_cases hlk : (k : Int) < (l : Int)
  · go_enter Try.func18, Try.ntmps18
    go_wp2
    go_loop [6] (fun i => ∃ x : Int, -1 ≤ x ∧ x ≤ l ∧ i = .int .i64 x ∧ Hid (A / 2 ^ (x + 1).toNat = B / 2 ^ (x + 1).toNat)) (fun i => (intOf i + 1).toNat)
    case atStart => exact ⟨(l : Int) - 1, by omega, by omega, rfl, by
      show A / 2 ^ ((l : Int) - 1 + 1).toNat = B / 2 ^ ((l : Int) - 1 + 1).toNat
      rw [hA0.out _ (by omega), hB0.out _ (by omega)]⟩
    case round =>
      obtain ⟨x, hx1, hx2, rfl, heq⟩ := hrel
      by_cases hx : 0 ≤ x
      · obtain ⟨y, rfl⟩ : ∃ y : Nat, x = y := ⟨x.toNat, by omega⟩
        have heq' : A / 2 ^ (y + 1) = B / 2 ^ (y + 1) := by
          have := heq.out
          rwa [show ((y : Int) + 1).toNat = y + 1 by omega] at this
        obtain ⟨s1, s2⟩ := hstep.out y heq'
        have s1H : Hid (A / 2 ^ y % 2 = B / 2 ^ y % 2 → A / 2 ^ y = B / 2 ^ y) := s1
        have s2H : Hid (A / 2 ^ y % 2 ≠ B / 2 ^ y % 2 → (A < B ↔ A / 2 ^ y % 2 < B / 2 ^ y % 2)) := s2
        have ha : AtIs w (.slice a k c) y (A / 2 ^ y % 2) := ⟨hau y w rfl⟩
        have hb : AtIs w (.slice b l d) y (B / 2 ^ y % 2) := ⟨hav y w rfl⟩
        clear s1 s2 heq heq' hau hav hstep hA0 hB0
        have hga : Hid (A / 2 ^ ((y : Int) - 1 + 1).toNat = A / 2 ^ y) := congrArg (fun z => A / 2 ^ z) (by omega)
        have hgb : Hid (B / 2 ^ ((y : Int) - 1 + 1).toNat = B / 2 ^ y) := congrArg (fun z => B / 2 ^ z) (by omega)
        generalize A / 2 ^ y % 2 = p at *
        generalize B / 2 ^ y % 2 = q at *
        by_cases hpq : p = q
        · subst hpq
          go_wp2_with (go_at_call 23; refine (at_is (by assumption)).mono ?_; rintro e w' ⟨rfl, he⟩; subst he)
          go_round
          case rel => exact ⟨(y : Int) - 1, by omega, by omega, rfl, by show A / 2 ^ ((y : Int) - 1 + 1).toNat = B / 2 ^ ((y : Int) - 1 + 1).toNat; rw [hga.out, hgb.out]; exact s1H.out (by trivial)⟩
          case measure => simp [intOf]
        · have hne : ((p : Int) != (q : Int)) = true := by simp; omega
          have hr : decide (A < B) = decide ((p : Int) < (q : Int)) := by
            have := s2H.out hpq
            simp only [this]
            simp
          have hrH : Hid (decide (A < B) = decide ((p : Int) < (q : Int))) := hr
          clear hr hpq
          go_wp2_with (go_at_call 23; refine (at_is (by assumption)).mono ?_; rintro e w' ⟨rfl, he⟩; subst he)
          go_ret
          exact ⟨by rw [hrH.out]; simp, rfl⟩
      · obtain rfl : x = -1 := by omega
        have hab : A = B := by simpa using heq.out
        have hf : Hid (decide (A < B) = false) := by show decide (A < B) = false; subst hab; simp
        clear heq hab hau hav hstep hA0 hB0
        go_wp2
        go_ret
        exact ⟨by rw [hf.out]; rfl, rfl⟩
  · go_enter Try.func18, Try.ntmps18
    go_wp2
    go_loop [6] (fun i => ∃ x : Int, -1 ≤ x ∧ x ≤ k ∧ i = .int .i64 x ∧ Hid (A / 2 ^ (x + 1).toNat = B / 2 ^ (x + 1).toNat)) (fun i => (intOf i + 1).toNat)
    case atStart => exact ⟨(k : Int) - 1, by omega, by omega, rfl, by
      show A / 2 ^ ((k : Int) - 1 + 1).toNat = B / 2 ^ ((k : Int) - 1 + 1).toNat
      rw [hA0.out _ (by omega), hB0.out _ (by omega)]⟩
    case round =>
      obtain ⟨x, hx1, hx2, rfl, heq⟩ := hrel
      by_cases hx : 0 ≤ x
      · obtain ⟨y, rfl⟩ : ∃ y : Nat, x = y := ⟨x.toNat, by omega⟩
        have heq' : A / 2 ^ (y + 1) = B / 2 ^ (y + 1) := by
          have := heq.out
          rwa [show ((y : Int) + 1).toNat = y + 1 by omega] at this
        obtain ⟨s1, s2⟩ := hstep.out y heq'
        have s1H : Hid (A / 2 ^ y % 2 = B / 2 ^ y % 2 → A / 2 ^ y = B / 2 ^ y) := s1
        have s2H : Hid (A / 2 ^ y % 2 ≠ B / 2 ^ y % 2 → (A < B ↔ A / 2 ^ y % 2 < B / 2 ^ y % 2)) := s2
        have ha : AtIs w (.slice a k c) y (A / 2 ^ y % 2) := ⟨hau y w rfl⟩
        have hb : AtIs w (.slice b l d) y (B / 2 ^ y % 2) := ⟨hav y w rfl⟩
        clear s1 s2 heq heq' hau hav hstep hA0 hB0
        have hga : Hid (A / 2 ^ ((y : Int) - 1 + 1).toNat = A / 2 ^ y) := congrArg (fun z => A / 2 ^ z) (by omega)
        have hgb : Hid (B / 2 ^ ((y : Int) - 1 + 1).toNat = B / 2 ^ y) := congrArg (fun z => B / 2 ^ z) (by omega)
        generalize A / 2 ^ y % 2 = p at *
        generalize B / 2 ^ y % 2 = q at *
        by_cases hpq : p = q
        · subst hpq
          go_wp2_with (go_at_call 23; refine (at_is (by assumption)).mono ?_; rintro e w' ⟨rfl, he⟩; subst he)
          go_round
          case rel => exact ⟨(y : Int) - 1, by omega, by omega, rfl, by show A / 2 ^ ((y : Int) - 1 + 1).toNat = B / 2 ^ ((y : Int) - 1 + 1).toNat; rw [hga.out, hgb.out]; exact s1H.out (by trivial)⟩
          case measure => simp [intOf]
        · have hne : ((p : Int) != (q : Int)) = true := by simp; omega
          have hr : decide (A < B) = decide ((p : Int) < (q : Int)) := by
            have := s2H.out hpq
            simp only [this]
            simp
          have hrH : Hid (decide (A < B) = decide ((p : Int) < (q : Int))) := hr
          clear hr hpq
          go_wp2_with (go_at_call 23; refine (at_is (by assumption)).mono ?_; rintro e w' ⟨rfl, he⟩; subst he)
          go_ret
          exact ⟨by rw [hrH.out]; simp, rfl⟩
      · obtain rfl : x = -1 := by omega
        have hab : A = B := by simpa using heq.out
        have hf : Hid (decide (A < B) = false) := by show decide (A < B) = false; subst hab; simp
        clear heq hab hau hav hstep hA0 hB0
        go_wp2
        go_ret
        exact ⟨by rw [hf.out]; rfl, rfl⟩
end Go.Proofs.Ytjkmoggajpkdeaa
