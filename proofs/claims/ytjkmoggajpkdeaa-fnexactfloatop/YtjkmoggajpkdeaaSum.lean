/- spec.l1Sum on rows of bits: the sum, or the difference. -/
import Derived.Test.YtjkmoggajpkdeaaRows2
namespace Go.Proofs.Ytjkmoggajpkdeaa
set_option linter.unusedVariables false
open Go.ChangeShapes Go.WideShapes Go.ChangeAt Go.RowKit

/-- A row of bits whose cells lie in this world's memory. -/
def RowB (w : World) (v : Value) (k M : Nat) : Prop :=
  Row w v k M ∧ ∀ g c, v = .slice (some ⟨g, 0, none⟩) k c → g < w.heap.size

theorem RowB.kept {w w' : World} {v : Value} {k M : Nat} (h : RowB w v k M) (hb : Below w.heap.size w w') : RowB w' v k M := by
  obtain ⟨⟨h1, h2, h3⟩, h4⟩ := h
  refine ⟨⟨h1, h2, ?_⟩, fun g c hv => Nat.lt_of_lt_of_le (h4 g c hv) hb.size⟩
  rcases h3 with h | ⟨g, cap, hv, hc⟩
  · exact .inl h
  · exact .inr ⟨g, cap, hv, fun j hj => by rw [hb.cell (p := ⟨g, j, none⟩) (h4 g cap hv)]; exact hc j hj⟩

theorem rowB_own {w : World} {v : Value} {k M : Nat} {B : Nat} (hM : M / 2 ^ k = 0) (hk : k ≤ 20000) (h : w.ownsRow B 2 1 v k (bitRow M k)) : RowB w v k M := by
  have hcells := fun g hg => h.cells (g := g) hg
  have hlt := h.lt
  obtain ⟨hl, ⟨rfl, h0⟩ | ⟨g, cap, cur, rfl, hg, hrest⟩⟩ := h
  · exact ⟨⟨hM, hk, .inl ⟨rfl, h0⟩⟩, fun g c hv => by cases hv⟩
  · refine ⟨⟨hM, hk, .inr ⟨g, cap, rfl, fun j hj => ?_⟩⟩, fun g' c hv => ?_⟩
    · have := hcells g rfl j (.int .i64 ((M / 2 ^ j % 2 : Nat) : Int)) (by simp [bitRow, hj])
      have hadd : (⟨g, 0, none⟩ : Addr).add j = ⟨g, j, none⟩ := by unfold Addr.add; split <;> simp_all
      rwa [hadd] at this
    · injection hv with h1 h2 h3
      injection h1 with h1
      injection h1 with h1
      subst h1
      exact (hlt g rfl).2

/-- One step of adding or taking away, on the quotients. -/
theorem add_step (p q s : Nat) (c : Int) (h : (s : Int) = p + q + c) (h0 : 0 ≤ c) (h1 : c ≤ 1) :
    (((p % 2 : Nat) : Int) + ((q % 2 : Nat) : Int) + c > 1 → ((s % 2 : Nat) : Int) = ((p % 2 : Nat) : Int) + ((q % 2 : Nat) : Int) + c - 2 ∧ ((s / 2 : Nat) : Int) = (p / 2 : Nat) + (q / 2 : Nat) + 1) ∧
    (¬ ((p % 2 : Nat) : Int) + ((q % 2 : Nat) : Int) + c > 1 → ((s % 2 : Nat) : Int) = ((p % 2 : Nat) : Int) + ((q % 2 : Nat) : Int) + c ∧ ((s / 2 : Nat) : Int) = (p / 2 : Nat) + (q / 2 : Nat) + 0) := by
  constructor <;> intro hx <;> constructor <;> omega
theorem sub_step (p q s : Nat) (c : Int) (h : (s : Int) = p - q + c) (h0 : -1 ≤ c) (h1 : c ≤ 0) :
    (((p % 2 : Nat) : Int) - ((q % 2 : Nat) : Int) + c < 0 → ((s % 2 : Nat) : Int) = ((p % 2 : Nat) : Int) - ((q % 2 : Nat) : Int) + c + 2 ∧ ((s / 2 : Nat) : Int) = (p / 2 : Nat) - (q / 2 : Nat) + (-1)) ∧
    (¬ ((p % 2 : Nat) : Int) - ((q % 2 : Nat) : Int) + c < 0 → ((s % 2 : Nat) : Int) = ((p % 2 : Nat) : Int) - ((q % 2 : Nat) : Int) + c ∧ ((s / 2 : Nat) : Int) = (p / 2 : Nat) - (q / 2 : Nat) + 0) := by
  constructor <;> intro hx <;> constructor <;> omega
theorem half_pow (M i : Nat) : M / 2 ^ (i + 1) = M / 2 ^ i / 2 := by rw [Nat.pow_succ, Nat.div_div_eq_div_mul]

set_option maxHeartbeats 1000000 in
theorem sumAddL (u v : Value) (k l A B : Nat) (w : World) (hu : RowB w u k A) (hv : RowB w v l B) (hlk : (k : Int) < (l : Int)) :
    Calls Try.prog 17 #[u, v, .bool false] w fun e w' => ∃ r, e = .returned r ∧ (A + B) / 2 ^ (l + 1) = 0 ∧ w'.ownsRow w.heap.size 2 1 r (l + 1) (bitRow (A + B) (l + 1)) ∧ Below w.heap.size w w' := by
  obtain ⟨i0, hi0⟩ : ∃ i, Try.prog.info? 2 = some i := Option.isSome_iff_exists.1 (by kernel_rfl)
  have hz0 : i0.zero = some (.int .i64 0) := by have : (Try.prog.info? 2).bind (·.zero) = some (.int .i64 0) := by kernel_rfl
                                                rw [hi0] at this; exact this
  have hz1 : i0.size = 1 := by have : (Try.prog.info? 2).map (·.size) = some 1 := by kernel_rfl
                               rw [hi0] at this; exact Option.some.inj this
  have hz2 : i0.bytes = 8 := by have : (Try.prog.info? 2).map (·.bytes) = some 8 := by kernel_rfl
                                rw [hi0] at this; exact Option.some.inj this
  have hau : Hid (∀ i w', Below w.heap.size w w' → AtIs w' u i (A / 2 ^ i % 2)) := fun i w' hw => ⟨at_calls u k A i w' (hu.kept hw).1⟩
  have hav : Hid (∀ i w', Below w.heap.size w w' → AtIs w' v i (B / 2 ^ i % 2)) := fun i w' hw => ⟨at_calls v l B i w' (hv.kept hw).1⟩
  have hk := hu.1.2.1
  have hl := hv.1.2.1
  have hA0 : Hid (∀ i, k ≤ i → A / 2 ^ i = 0) := row_beyond hu.1.1
  have hB0 : Hid (∀ i, l ≤ i → B / 2 ^ i = 0) := row_beyond hv.1.1
  obtain ⟨a, c, rfl⟩ : ∃ a c, u = .slice a k c := by
    obtain ⟨⟨_, _, ⟨rfl, rfl⟩ | ⟨g, cap, rfl, _⟩⟩, _⟩ := hu
    · exact ⟨_, _, rfl⟩
    · exact ⟨_, _, rfl⟩
  obtain ⟨b, d, rfl⟩ : ∃ b d, v = .slice b l d := by
    obtain ⟨⟨_, _, ⟨rfl, rfl⟩ | ⟨g, cap, rfl, _⟩⟩, _⟩ := hv
    · exact ⟨_, _, rfl⟩
    · exact ⟨_, _, rfl⟩
  have hS : Hid (((A + B) : Nat) = (A : Int) + B) := by show (((A + B) : Nat) : Int) = (A : Int) + B; omega
  clear hu hv
  generalize (A + B) = S at *
  go_enter Try.func17, Try.ntmps17
  go_wp2
  go_loopw [8, 9, 10] (fun out cr iv wr => ∃ (i : Nat) (c1 : Int), iv = .int .i64 (i : Int) ∧ cr = .int .i64 c1 ∧ i ≤ l ∧ 0 ≤ c1 ∧ c1 ≤ 1 ∧ Hid (((S / 2 ^ i : Nat) : Int) = ((A / 2 ^ i : Nat) : Int) + ((B / 2 ^ i : Nat) : Int) + c1) ∧ wr.ownsRow w.heap.size 2 1 out i (bitRow S i) ∧ Below w.heap.size w wr) (fun _ _ iv _ => l - (intOf iv).toNat)
  case atStart => exact ⟨0, 0, rfl, rfl, by omega, by omega, by omega, by have := hS.out; show _ = _; simpa using this, ⟨by simp [bitRow], .inr ⟨w.heap.size, 0, #[], rfl, Nat.le_refl _, heap_alloc_last w _, Nat.le_refl _, Nat.zero_le _, rfl, by simp [bitRow]⟩⟩, (Below.refl _ _).alloc (Nat.le_refl _) _⟩
  case round =>
    obtain ⟨i, c1, rfl, rfl, hi, hc0, hc1, heq, hown, hbel⟩ := hrel
    by_cases hin : i < l
    · have hin1 : (i : Int) < l := by omega
      have ha := hau.out i wr hbel
      have hb := hav.out i wr hbel
      obtain ⟨s1, s2⟩ := add_step _ _ _ c1 heq.out hc0 hc1
      rw [← half_pow, ← half_pow, ← half_pow] at s1 s2
      have hrow : Hid (∀ x : Int, ((S / 2 ^ i % 2 : Nat) : Int) = x → bitRow S (i + 1) = bitRow S i ++ [.int .i64 x]) := fun x hx => by rw [bitRow_succ, hx]
      have hpa : A / 2 ^ i % 2 ≤ 1 := by omega
      have hqa : B / 2 ^ i % 2 ≤ 1 := by omega
      have s1H : Hid _ := s1
      have s2H : Hid _ := s2
      clear s1 s2 heq hau hav hA0 hB0 hS
      generalize A / 2 ^ i % 2 = pa at *
      generalize B / 2 ^ i % 2 = qa at *
      generalize S / 2 ^ i % 2 = sa at *
      by_cases hx : (pa : Int) + (qa : Int) + c1 > 1
      · obtain ⟨e1, e2⟩ := s1H.out hx
        have e1H : Hid _ := e1
        have e2H : Hid _ := e2
        clear e1 e2 s1H s2H
        go_wp2_with (first | (go_at_call 23; refine (at_is (by assumption)).mono ?_; rintro e w' ⟨rfl, he⟩; subst w') | (at_builtin; refine wpList_append_own _ rfl _ _ 39 rfl w.heap.size 2 i0 (.int .i64 0) 1 8 Try.underlying39 hi0 hz0 hz1 hz2 rfl (by decide) _ _ _ rfl (hown.alloc _) ⟨wr.heap.size, 0, none⟩ 1 1 [.int .i64 ((pa : Int) + (qa : Int) + c1 - 2)] rfl rfl ?c1 ?c2 ?c3 ?c4 ?c5 ?_))
        try (case c1 =>
          intro j u hj
          match j, hj with
          | 0, hj => simp at hj; subst hj; simp [Addr.add])
        try (case c2 => first | rfl | (intro u hu; simp at hu; subst hu; rfl))
        case c3 => unfold maxLen; omega
        case c4 => omega
        case c5 => have := hbel.size; simp; omega
        intro v' w1 hown' hgrow _
        have hb1 : Below w.heap.size w w1 := (hbel.alloc hbel.size _).grown hgrow (by have := hbel.size; simp; omega) (fun j hj => by
          obtain ⟨_, ⟨rfl, _⟩ | ⟨g, cap, cur, rfl, hg, _⟩⟩ := hown
          · simp [Value.ownBlock] at hj
          · simp [Value.ownBlock] at hj; omega)
        clear hgrow hown
        go_wp2
        go_roundw
        case rel => exact ⟨i + 1, 1, by simp, rfl, by omega, by omega, by omega, e2H.out, by rw [hrow.out _ e1H.out]; exact hown', hb1⟩
        case measure => first | (simp [intOf]; done) | (simp [intOf]; omega)
      · obtain ⟨e1, e2⟩ := s2H.out hx
        have e1H : Hid _ := e1
        have e2H : Hid _ := e2
        have hx2 : ¬ (pa : Int) + (qa : Int) + c1 < 0 := by omega
        clear e1 e2 s1H s2H
        go_wp2_with (first | (go_at_call 23; refine (at_is (by assumption)).mono ?_; rintro e w' ⟨rfl, he⟩; subst w') | (at_builtin; refine wpList_append_own _ rfl _ _ 39 rfl w.heap.size 2 i0 (.int .i64 0) 1 8 Try.underlying39 hi0 hz0 hz1 hz2 rfl (by decide) _ _ _ rfl (hown.alloc _) ⟨wr.heap.size, 0, none⟩ 1 1 [.int .i64 ((pa : Int) + (qa : Int) + c1)] rfl rfl ?c1 ?c2 ?c3 ?c4 ?c5 ?_))
        try (case c1 =>
          intro j u hj
          match j, hj with
          | 0, hj => simp at hj; subst hj; simp [Addr.add])
        try (case c2 => first | rfl | (intro u hu; simp at hu; subst hu; rfl))
        case c3 => unfold maxLen; omega
        case c4 => omega
        case c5 => have := hbel.size; simp; omega
        intro v' w1 hown' hgrow _
        have hb1 : Below w.heap.size w w1 := (hbel.alloc hbel.size _).grown hgrow (by have := hbel.size; simp; omega) (fun j hj => by
          obtain ⟨_, ⟨rfl, _⟩ | ⟨g, cap, cur, rfl, hg, _⟩⟩ := hown
          · simp [Value.ownBlock] at hj
          · simp [Value.ownBlock] at hj; omega)
        clear hgrow hown
        go_wp2
        go_roundw
        case rel => exact ⟨i + 1, 0, by simp, rfl, by omega, by omega, by omega, e2H.out, by rw [hrow.out _ e1H.out]; exact hown', hb1⟩
        case measure => first | (simp [intOf]; done) | (simp [intOf]; omega)
    · have hin1 : ¬ (i : Int) < l := by omega
      obtain rfl : i = l := by omega
      have hq := heq.out
      rw [hA0.out _ (by omega), hB0.out _ (by omega)] at hq
      have hrow : Hid (bitRow S (i + 1) = bitRow S i ++ [.int .i64 c1]) := by
        show _ = _
        rw [bitRow_succ]
        congr 3
        generalize S / 2 ^ i = z at hq ⊢
        omega
      have hend : Hid (S / 2 ^ (i + 1) = 0) := by show _ = _; rw [half_pow]; generalize S / 2 ^ i = z at hq ⊢; omega
      clear hq heq hau hav hA0 hB0 hS
      go_wp2_with (first | (go_at_call 23; refine (at_is (by assumption)).mono ?_; rintro e w' ⟨rfl, he⟩; subst w') | (at_builtin; refine wpList_append_own _ rfl _ _ 39 rfl w.heap.size 2 i0 (.int .i64 0) 1 8 Try.underlying39 hi0 hz0 hz1 hz2 rfl (by decide) _ _ _ rfl (hown.alloc _) ⟨wr.heap.size, 0, none⟩ 1 1 [.int .i64 (c1)] rfl rfl ?c1 ?c2 ?c3 ?c4 ?c5 ?_))
      try (case c1 =>
        intro j u hj
        match j, hj with
        | 0, hj => simp at hj; subst hj; simp [Addr.add])
      try (case c2 => first | rfl | (intro u hu; simp at hu; subst hu; rfl))
      case c3 => unfold maxLen; omega
      case c4 => omega
      case c5 => have := hbel.size; simp; omega
      intro v' w1 hown' hgrow _
      have hb1 : Below w.heap.size w w1 := (hbel.alloc hbel.size _).grown hgrow (by have := hbel.size; simp; omega) (fun j hj => by
        obtain ⟨_, ⟨rfl, _⟩ | ⟨g, cap, cur, rfl, hg, _⟩⟩ := hown
        · simp [Value.ownBlock] at hj
        · simp [Value.ownBlock] at hj; omega)
      clear hgrow hown
      go_wp2
      go_ret
      exact ⟨_, rfl, hend.out, by rw [hrow.out]; exact hown', hb1⟩

set_option maxHeartbeats 1000000 in
theorem sumAddK (u v : Value) (k l A B : Nat) (w : World) (hu : RowB w u k A) (hv : RowB w v l B) (hlk : ¬ (k : Int) < (l : Int)) :
    Calls Try.prog 17 #[u, v, .bool false] w fun e w' => ∃ r, e = .returned r ∧ (A + B) / 2 ^ (k + 1) = 0 ∧ w'.ownsRow w.heap.size 2 1 r (k + 1) (bitRow (A + B) (k + 1)) ∧ Below w.heap.size w w' := by
  obtain ⟨i0, hi0⟩ : ∃ i, Try.prog.info? 2 = some i := Option.isSome_iff_exists.1 (by kernel_rfl)
  have hz0 : i0.zero = some (.int .i64 0) := by have : (Try.prog.info? 2).bind (·.zero) = some (.int .i64 0) := by kernel_rfl
                                                rw [hi0] at this; exact this
  have hz1 : i0.size = 1 := by have : (Try.prog.info? 2).map (·.size) = some 1 := by kernel_rfl
                               rw [hi0] at this; exact Option.some.inj this
  have hz2 : i0.bytes = 8 := by have : (Try.prog.info? 2).map (·.bytes) = some 8 := by kernel_rfl
                                rw [hi0] at this; exact Option.some.inj this
  have hau : Hid (∀ i w', Below w.heap.size w w' → AtIs w' u i (A / 2 ^ i % 2)) := fun i w' hw => ⟨at_calls u k A i w' (hu.kept hw).1⟩
  have hav : Hid (∀ i w', Below w.heap.size w w' → AtIs w' v i (B / 2 ^ i % 2)) := fun i w' hw => ⟨at_calls v l B i w' (hv.kept hw).1⟩
  have hk := hu.1.2.1
  have hl := hv.1.2.1
  have hA0 : Hid (∀ i, k ≤ i → A / 2 ^ i = 0) := row_beyond hu.1.1
  have hB0 : Hid (∀ i, l ≤ i → B / 2 ^ i = 0) := row_beyond hv.1.1
  obtain ⟨a, c, rfl⟩ : ∃ a c, u = .slice a k c := by
    obtain ⟨⟨_, _, ⟨rfl, rfl⟩ | ⟨g, cap, rfl, _⟩⟩, _⟩ := hu
    · exact ⟨_, _, rfl⟩
    · exact ⟨_, _, rfl⟩
  obtain ⟨b, d, rfl⟩ : ∃ b d, v = .slice b l d := by
    obtain ⟨⟨_, _, ⟨rfl, rfl⟩ | ⟨g, cap, rfl, _⟩⟩, _⟩ := hv
    · exact ⟨_, _, rfl⟩
    · exact ⟨_, _, rfl⟩
  have hS : Hid (((A + B) : Nat) = (A : Int) + B) := by show (((A + B) : Nat) : Int) = (A : Int) + B; omega
  clear hu hv
  generalize (A + B) = S at *
  go_enter Try.func17, Try.ntmps17
  go_wp2
  go_loopw [8, 9, 10] (fun out cr iv wr => ∃ (i : Nat) (c1 : Int), iv = .int .i64 (i : Int) ∧ cr = .int .i64 c1 ∧ i ≤ k ∧ 0 ≤ c1 ∧ c1 ≤ 1 ∧ Hid (((S / 2 ^ i : Nat) : Int) = ((A / 2 ^ i : Nat) : Int) + ((B / 2 ^ i : Nat) : Int) + c1) ∧ wr.ownsRow w.heap.size 2 1 out i (bitRow S i) ∧ Below w.heap.size w wr) (fun _ _ iv _ => k - (intOf iv).toNat)
  case atStart => exact ⟨0, 0, rfl, rfl, by omega, by omega, by omega, by have := hS.out; show _ = _; simpa using this, ⟨by simp [bitRow], .inr ⟨w.heap.size, 0, #[], rfl, Nat.le_refl _, heap_alloc_last w _, Nat.le_refl _, Nat.zero_le _, rfl, by simp [bitRow]⟩⟩, (Below.refl _ _).alloc (Nat.le_refl _) _⟩
  case round =>
    obtain ⟨i, c1, rfl, rfl, hi, hc0, hc1, heq, hown, hbel⟩ := hrel
    by_cases hin : i < k
    · have hin1 : (i : Int) < k := by omega
      have ha := hau.out i wr hbel
      have hb := hav.out i wr hbel
      obtain ⟨s1, s2⟩ := add_step _ _ _ c1 heq.out hc0 hc1
      rw [← half_pow, ← half_pow, ← half_pow] at s1 s2
      have hrow : Hid (∀ x : Int, ((S / 2 ^ i % 2 : Nat) : Int) = x → bitRow S (i + 1) = bitRow S i ++ [.int .i64 x]) := fun x hx => by rw [bitRow_succ, hx]
      have hpa : A / 2 ^ i % 2 ≤ 1 := by omega
      have hqa : B / 2 ^ i % 2 ≤ 1 := by omega
      have s1H : Hid _ := s1
      have s2H : Hid _ := s2
      clear s1 s2 heq hau hav hA0 hB0 hS
      generalize A / 2 ^ i % 2 = pa at *
      generalize B / 2 ^ i % 2 = qa at *
      generalize S / 2 ^ i % 2 = sa at *
      by_cases hx : (pa : Int) + (qa : Int) + c1 > 1
      · obtain ⟨e1, e2⟩ := s1H.out hx
        have e1H : Hid _ := e1
        have e2H : Hid _ := e2
        clear e1 e2 s1H s2H
        go_wp2_with (first | (go_at_call 23; refine (at_is (by assumption)).mono ?_; rintro e w' ⟨rfl, he⟩; subst w') | (at_builtin; refine wpList_append_own _ rfl _ _ 39 rfl w.heap.size 2 i0 (.int .i64 0) 1 8 Try.underlying39 hi0 hz0 hz1 hz2 rfl (by decide) _ _ _ rfl (hown.alloc _) ⟨wr.heap.size, 0, none⟩ 1 1 [.int .i64 ((pa : Int) + (qa : Int) + c1 - 2)] rfl rfl ?c1 ?c2 ?c3 ?c4 ?c5 ?_))
        try (case c1 =>
          intro j u hj
          match j, hj with
          | 0, hj => simp at hj; subst hj; simp [Addr.add])
        try (case c2 => first | rfl | (intro u hu; simp at hu; subst hu; rfl))
        case c3 => unfold maxLen; omega
        case c4 => omega
        case c5 => have := hbel.size; simp; omega
        intro v' w1 hown' hgrow _
        have hb1 : Below w.heap.size w w1 := (hbel.alloc hbel.size _).grown hgrow (by have := hbel.size; simp; omega) (fun j hj => by
          obtain ⟨_, ⟨rfl, _⟩ | ⟨g, cap, cur, rfl, hg, _⟩⟩ := hown
          · simp [Value.ownBlock] at hj
          · simp [Value.ownBlock] at hj; omega)
        clear hgrow hown
        go_wp2
        go_roundw
        case rel => exact ⟨i + 1, 1, by simp, rfl, by omega, by omega, by omega, e2H.out, by rw [hrow.out _ e1H.out]; exact hown', hb1⟩
        case measure => first | (simp [intOf]; done) | (simp [intOf]; omega)
      · obtain ⟨e1, e2⟩ := s2H.out hx
        have e1H : Hid _ := e1
        have e2H : Hid _ := e2
        have hx2 : ¬ (pa : Int) + (qa : Int) + c1 < 0 := by omega
        clear e1 e2 s1H s2H
        go_wp2_with (first | (go_at_call 23; refine (at_is (by assumption)).mono ?_; rintro e w' ⟨rfl, he⟩; subst w') | (at_builtin; refine wpList_append_own _ rfl _ _ 39 rfl w.heap.size 2 i0 (.int .i64 0) 1 8 Try.underlying39 hi0 hz0 hz1 hz2 rfl (by decide) _ _ _ rfl (hown.alloc _) ⟨wr.heap.size, 0, none⟩ 1 1 [.int .i64 ((pa : Int) + (qa : Int) + c1)] rfl rfl ?c1 ?c2 ?c3 ?c4 ?c5 ?_))
        try (case c1 =>
          intro j u hj
          match j, hj with
          | 0, hj => simp at hj; subst hj; simp [Addr.add])
        try (case c2 => first | rfl | (intro u hu; simp at hu; subst hu; rfl))
        case c3 => unfold maxLen; omega
        case c4 => omega
        case c5 => have := hbel.size; simp; omega
        intro v' w1 hown' hgrow _
        have hb1 : Below w.heap.size w w1 := (hbel.alloc hbel.size _).grown hgrow (by have := hbel.size; simp; omega) (fun j hj => by
          obtain ⟨_, ⟨rfl, _⟩ | ⟨g, cap, cur, rfl, hg, _⟩⟩ := hown
          · simp [Value.ownBlock] at hj
          · simp [Value.ownBlock] at hj; omega)
        clear hgrow hown
        go_wp2
        go_roundw
        case rel => exact ⟨i + 1, 0, by simp, rfl, by omega, by omega, by omega, e2H.out, by rw [hrow.out _ e1H.out]; exact hown', hb1⟩
        case measure => first | (simp [intOf]; done) | (simp [intOf]; omega)
    · have hin1 : ¬ (i : Int) < k := by omega
      obtain rfl : i = k := by omega
      have hq := heq.out
      rw [hA0.out _ (by omega), hB0.out _ (by omega)] at hq
      have hrow : Hid (bitRow S (i + 1) = bitRow S i ++ [.int .i64 c1]) := by
        show _ = _
        rw [bitRow_succ]
        congr 3
        generalize S / 2 ^ i = z at hq ⊢
        omega
      have hend : Hid (S / 2 ^ (i + 1) = 0) := by show _ = _; rw [half_pow]; generalize S / 2 ^ i = z at hq ⊢; omega
      clear hq heq hau hav hA0 hB0 hS
      go_wp2_with (first | (go_at_call 23; refine (at_is (by assumption)).mono ?_; rintro e w' ⟨rfl, he⟩; subst w') | (at_builtin; refine wpList_append_own _ rfl _ _ 39 rfl w.heap.size 2 i0 (.int .i64 0) 1 8 Try.underlying39 hi0 hz0 hz1 hz2 rfl (by decide) _ _ _ rfl (hown.alloc _) ⟨wr.heap.size, 0, none⟩ 1 1 [.int .i64 (c1)] rfl rfl ?c1 ?c2 ?c3 ?c4 ?c5 ?_))
      try (case c1 =>
        intro j u hj
        match j, hj with
        | 0, hj => simp at hj; subst hj; simp [Addr.add])
      try (case c2 => first | rfl | (intro u hu; simp at hu; subst hu; rfl))
      case c3 => unfold maxLen; omega
      case c4 => omega
      case c5 => have := hbel.size; simp; omega
      intro v' w1 hown' hgrow _
      have hb1 : Below w.heap.size w w1 := (hbel.alloc hbel.size _).grown hgrow (by have := hbel.size; simp; omega) (fun j hj => by
        obtain ⟨_, ⟨rfl, _⟩ | ⟨g, cap, cur, rfl, hg, _⟩⟩ := hown
        · simp [Value.ownBlock] at hj
        · simp [Value.ownBlock] at hj; omega)
      clear hgrow hown
      go_wp2
      go_ret
      exact ⟨_, rfl, hend.out, by rw [hrow.out]; exact hown', hb1⟩

set_option maxHeartbeats 1000000 in
theorem sumSubL (u v : Value) (k l A B : Nat) (w : World) (hu : RowB w u k A) (hv : RowB w v l B) (hlk : (k : Int) < (l : Int)) (hBA : B ≤ A) :
    Calls Try.prog 17 #[u, v, .bool true] w fun e w' => ∃ r, e = .returned r ∧ (A - B) / 2 ^ (l + 1) = 0 ∧ w'.ownsRow w.heap.size 2 1 r (l + 1) (bitRow (A - B) (l + 1)) ∧ Below w.heap.size w w' := by
  obtain ⟨i0, hi0⟩ : ∃ i, Try.prog.info? 2 = some i := Option.isSome_iff_exists.1 (by kernel_rfl)
  have hz0 : i0.zero = some (.int .i64 0) := by have : (Try.prog.info? 2).bind (·.zero) = some (.int .i64 0) := by kernel_rfl
                                                rw [hi0] at this; exact this
  have hz1 : i0.size = 1 := by have : (Try.prog.info? 2).map (·.size) = some 1 := by kernel_rfl
                               rw [hi0] at this; exact Option.some.inj this
  have hz2 : i0.bytes = 8 := by have : (Try.prog.info? 2).map (·.bytes) = some 8 := by kernel_rfl
                                rw [hi0] at this; exact Option.some.inj this
  have hau : Hid (∀ i w', Below w.heap.size w w' → AtIs w' u i (A / 2 ^ i % 2)) := fun i w' hw => ⟨at_calls u k A i w' (hu.kept hw).1⟩
  have hav : Hid (∀ i w', Below w.heap.size w w' → AtIs w' v i (B / 2 ^ i % 2)) := fun i w' hw => ⟨at_calls v l B i w' (hv.kept hw).1⟩
  have hk := hu.1.2.1
  have hl := hv.1.2.1
  have hA0 : Hid (∀ i, k ≤ i → A / 2 ^ i = 0) := row_beyond hu.1.1
  have hB0 : Hid (∀ i, l ≤ i → B / 2 ^ i = 0) := row_beyond hv.1.1
  obtain ⟨a, c, rfl⟩ : ∃ a c, u = .slice a k c := by
    obtain ⟨⟨_, _, ⟨rfl, rfl⟩ | ⟨g, cap, rfl, _⟩⟩, _⟩ := hu
    · exact ⟨_, _, rfl⟩
    · exact ⟨_, _, rfl⟩
  obtain ⟨b, d, rfl⟩ : ∃ b d, v = .slice b l d := by
    obtain ⟨⟨_, _, ⟨rfl, rfl⟩ | ⟨g, cap, rfl, _⟩⟩, _⟩ := hv
    · exact ⟨_, _, rfl⟩
    · exact ⟨_, _, rfl⟩
  have hS : Hid (((A - B) : Nat) = (A : Int) - B) := by show (((A - B) : Nat) : Int) = (A : Int) - B; omega
  clear hu hv hBA
  generalize (A - B) = S at *
  go_enter Try.func17, Try.ntmps17
  go_wp2
  go_loopw [8, 9, 10] (fun out cr iv wr => ∃ (i : Nat) (c1 : Int), iv = .int .i64 (i : Int) ∧ cr = .int .i64 c1 ∧ i ≤ l ∧ -1 ≤ c1 ∧ c1 ≤ 0 ∧ Hid (((S / 2 ^ i : Nat) : Int) = ((A / 2 ^ i : Nat) : Int) - ((B / 2 ^ i : Nat) : Int) + c1) ∧ wr.ownsRow w.heap.size 2 1 out i (bitRow S i) ∧ Below w.heap.size w wr) (fun _ _ iv _ => l - (intOf iv).toNat)
  case atStart => exact ⟨0, 0, rfl, rfl, by omega, by omega, by omega, by have := hS.out; show _ = _; simpa using this, ⟨by simp [bitRow], .inr ⟨w.heap.size, 0, #[], rfl, Nat.le_refl _, heap_alloc_last w _, Nat.le_refl _, Nat.zero_le _, rfl, by simp [bitRow]⟩⟩, (Below.refl _ _).alloc (Nat.le_refl _) _⟩
  case round =>
    obtain ⟨i, c1, rfl, rfl, hi, hc0, hc1, heq, hown, hbel⟩ := hrel
    by_cases hin : i < l
    · have hin1 : (i : Int) < l := by omega
      have ha := hau.out i wr hbel
      have hb := hav.out i wr hbel
      obtain ⟨s1, s2⟩ := sub_step _ _ _ c1 heq.out hc0 hc1
      rw [← half_pow, ← half_pow, ← half_pow] at s1 s2
      have hrow : Hid (∀ x : Int, ((S / 2 ^ i % 2 : Nat) : Int) = x → bitRow S (i + 1) = bitRow S i ++ [.int .i64 x]) := fun x hx => by rw [bitRow_succ, hx]
      have hpa : A / 2 ^ i % 2 ≤ 1 := by omega
      have hqa : B / 2 ^ i % 2 ≤ 1 := by omega
      have s1H : Hid _ := s1
      have s2H : Hid _ := s2
      clear s1 s2 heq hau hav hA0 hB0 hS
      generalize A / 2 ^ i % 2 = pa at *
      generalize B / 2 ^ i % 2 = qa at *
      generalize S / 2 ^ i % 2 = sa at *
      by_cases hx : (pa : Int) - (qa : Int) + c1 < 0
      · obtain ⟨e1, e2⟩ := s1H.out hx
        have e1H : Hid _ := e1
        have e2H : Hid _ := e2
        clear e1 e2 s1H s2H
        go_wp2_with (first | (go_at_call 23; refine (at_is (by assumption)).mono ?_; rintro e w' ⟨rfl, he⟩; subst w') | (at_builtin; refine wpList_append_own _ rfl _ _ 39 rfl w.heap.size 2 i0 (.int .i64 0) 1 8 Try.underlying39 hi0 hz0 hz1 hz2 rfl (by decide) _ _ _ rfl (hown.alloc _) ⟨wr.heap.size, 0, none⟩ 1 1 [.int .i64 ((pa : Int) - (qa : Int) + c1 + 2)] rfl rfl ?c1 ?c2 ?c3 ?c4 ?c5 ?_))
        try (case c1 =>
          intro j u hj
          match j, hj with
          | 0, hj => simp at hj; subst hj; simp [Addr.add])
        try (case c2 => first | rfl | (intro u hu; simp at hu; subst hu; rfl))
        case c3 => unfold maxLen; omega
        case c4 => omega
        case c5 => have := hbel.size; simp; omega
        intro v' w1 hown' hgrow _
        have hb1 : Below w.heap.size w w1 := (hbel.alloc hbel.size _).grown hgrow (by have := hbel.size; simp; omega) (fun j hj => by
          obtain ⟨_, ⟨rfl, _⟩ | ⟨g, cap, cur, rfl, hg, _⟩⟩ := hown
          · simp [Value.ownBlock] at hj
          · simp [Value.ownBlock] at hj; omega)
        clear hgrow hown
        go_wp2
        go_roundw
        case rel => exact ⟨i + 1, -1, by simp, rfl, by omega, by omega, by omega, e2H.out, by rw [hrow.out _ e1H.out]; exact hown', hb1⟩
        case measure => first | (simp [intOf]; done) | (simp [intOf]; omega)
      · obtain ⟨e1, e2⟩ := s2H.out hx
        have e1H : Hid _ := e1
        have e2H : Hid _ := e2
        have hx2 : ¬ 1 < (pa : Int) - (qa : Int) + c1 := by omega
        clear e1 e2 s1H s2H
        go_wp2_with (first | (go_at_call 23; refine (at_is (by assumption)).mono ?_; rintro e w' ⟨rfl, he⟩; subst w') | (at_builtin; refine wpList_append_own _ rfl _ _ 39 rfl w.heap.size 2 i0 (.int .i64 0) 1 8 Try.underlying39 hi0 hz0 hz1 hz2 rfl (by decide) _ _ _ rfl (hown.alloc _) ⟨wr.heap.size, 0, none⟩ 1 1 [.int .i64 ((pa : Int) - (qa : Int) + c1)] rfl rfl ?c1 ?c2 ?c3 ?c4 ?c5 ?_))
        try (case c1 =>
          intro j u hj
          match j, hj with
          | 0, hj => simp at hj; subst hj; simp [Addr.add])
        try (case c2 => first | rfl | (intro u hu; simp at hu; subst hu; rfl))
        case c3 => unfold maxLen; omega
        case c4 => omega
        case c5 => have := hbel.size; simp; omega
        intro v' w1 hown' hgrow _
        have hb1 : Below w.heap.size w w1 := (hbel.alloc hbel.size _).grown hgrow (by have := hbel.size; simp; omega) (fun j hj => by
          obtain ⟨_, ⟨rfl, _⟩ | ⟨g, cap, cur, rfl, hg, _⟩⟩ := hown
          · simp [Value.ownBlock] at hj
          · simp [Value.ownBlock] at hj; omega)
        clear hgrow hown
        go_wp2
        go_roundw
        case rel => exact ⟨i + 1, 0, by simp, rfl, by omega, by omega, by omega, e2H.out, by rw [hrow.out _ e1H.out]; exact hown', hb1⟩
        case measure => first | (simp [intOf]; done) | (simp [intOf]; omega)
    · have hin1 : ¬ (i : Int) < l := by omega
      obtain rfl : i = l := by omega
      have hq := heq.out
      rw [hA0.out _ (by omega), hB0.out _ (by omega)] at hq
      have hrow : Hid (bitRow S (i + 1) = bitRow S i ++ [.int .i64 c1]) := by
        show _ = _
        rw [bitRow_succ]
        congr 3
        generalize S / 2 ^ i = z at hq ⊢
        omega
      have hend : Hid (S / 2 ^ (i + 1) = 0) := by show _ = _; rw [half_pow]; generalize S / 2 ^ i = z at hq ⊢; omega
      clear hq heq hau hav hA0 hB0 hS
      go_wp2_with (first | (go_at_call 23; refine (at_is (by assumption)).mono ?_; rintro e w' ⟨rfl, he⟩; subst w') | (at_builtin; refine wpList_append_own _ rfl _ _ 39 rfl w.heap.size 2 i0 (.int .i64 0) 1 8 Try.underlying39 hi0 hz0 hz1 hz2 rfl (by decide) _ _ _ rfl (hown.alloc _) ⟨wr.heap.size, 0, none⟩ 1 1 [.int .i64 (c1)] rfl rfl ?c1 ?c2 ?c3 ?c4 ?c5 ?_))
      try (case c1 =>
        intro j u hj
        match j, hj with
        | 0, hj => simp at hj; subst hj; simp [Addr.add])
      try (case c2 => first | rfl | (intro u hu; simp at hu; subst hu; rfl))
      case c3 => unfold maxLen; omega
      case c4 => omega
      case c5 => have := hbel.size; simp; omega
      intro v' w1 hown' hgrow _
      have hb1 : Below w.heap.size w w1 := (hbel.alloc hbel.size _).grown hgrow (by have := hbel.size; simp; omega) (fun j hj => by
        obtain ⟨_, ⟨rfl, _⟩ | ⟨g, cap, cur, rfl, hg, _⟩⟩ := hown
        · simp [Value.ownBlock] at hj
        · simp [Value.ownBlock] at hj; omega)
      clear hgrow hown
      go_wp2
      go_ret
      exact ⟨_, rfl, hend.out, by rw [hrow.out]; exact hown', hb1⟩

set_option maxHeartbeats 1000000 in
theorem sumSubK (u v : Value) (k l A B : Nat) (w : World) (hu : RowB w u k A) (hv : RowB w v l B) (hlk : ¬ (k : Int) < (l : Int)) (hBA : B ≤ A) :
    Calls Try.prog 17 #[u, v, .bool true] w fun e w' => ∃ r, e = .returned r ∧ (A - B) / 2 ^ (k + 1) = 0 ∧ w'.ownsRow w.heap.size 2 1 r (k + 1) (bitRow (A - B) (k + 1)) ∧ Below w.heap.size w w' := by
  obtain ⟨i0, hi0⟩ : ∃ i, Try.prog.info? 2 = some i := Option.isSome_iff_exists.1 (by kernel_rfl)
  have hz0 : i0.zero = some (.int .i64 0) := by have : (Try.prog.info? 2).bind (·.zero) = some (.int .i64 0) := by kernel_rfl
                                                rw [hi0] at this; exact this
  have hz1 : i0.size = 1 := by have : (Try.prog.info? 2).map (·.size) = some 1 := by kernel_rfl
                               rw [hi0] at this; exact Option.some.inj this
  have hz2 : i0.bytes = 8 := by have : (Try.prog.info? 2).map (·.bytes) = some 8 := by kernel_rfl
                                rw [hi0] at this; exact Option.some.inj this
  have hau : Hid (∀ i w', Below w.heap.size w w' → AtIs w' u i (A / 2 ^ i % 2)) := fun i w' hw => ⟨at_calls u k A i w' (hu.kept hw).1⟩
  have hav : Hid (∀ i w', Below w.heap.size w w' → AtIs w' v i (B / 2 ^ i % 2)) := fun i w' hw => ⟨at_calls v l B i w' (hv.kept hw).1⟩
  have hk := hu.1.2.1
  have hl := hv.1.2.1
  have hA0 : Hid (∀ i, k ≤ i → A / 2 ^ i = 0) := row_beyond hu.1.1
  have hB0 : Hid (∀ i, l ≤ i → B / 2 ^ i = 0) := row_beyond hv.1.1
  obtain ⟨a, c, rfl⟩ : ∃ a c, u = .slice a k c := by
    obtain ⟨⟨_, _, ⟨rfl, rfl⟩ | ⟨g, cap, rfl, _⟩⟩, _⟩ := hu
    · exact ⟨_, _, rfl⟩
    · exact ⟨_, _, rfl⟩
  obtain ⟨b, d, rfl⟩ : ∃ b d, v = .slice b l d := by
    obtain ⟨⟨_, _, ⟨rfl, rfl⟩ | ⟨g, cap, rfl, _⟩⟩, _⟩ := hv
    · exact ⟨_, _, rfl⟩
    · exact ⟨_, _, rfl⟩
  have hS : Hid (((A - B) : Nat) = (A : Int) - B) := by show (((A - B) : Nat) : Int) = (A : Int) - B; omega
  clear hu hv hBA
  generalize (A - B) = S at *
  go_enter Try.func17, Try.ntmps17
  go_wp2
  go_loopw [8, 9, 10] (fun out cr iv wr => ∃ (i : Nat) (c1 : Int), iv = .int .i64 (i : Int) ∧ cr = .int .i64 c1 ∧ i ≤ k ∧ -1 ≤ c1 ∧ c1 ≤ 0 ∧ Hid (((S / 2 ^ i : Nat) : Int) = ((A / 2 ^ i : Nat) : Int) - ((B / 2 ^ i : Nat) : Int) + c1) ∧ wr.ownsRow w.heap.size 2 1 out i (bitRow S i) ∧ Below w.heap.size w wr) (fun _ _ iv _ => k - (intOf iv).toNat)
  case atStart => exact ⟨0, 0, rfl, rfl, by omega, by omega, by omega, by have := hS.out; show _ = _; simpa using this, ⟨by simp [bitRow], .inr ⟨w.heap.size, 0, #[], rfl, Nat.le_refl _, heap_alloc_last w _, Nat.le_refl _, Nat.zero_le _, rfl, by simp [bitRow]⟩⟩, (Below.refl _ _).alloc (Nat.le_refl _) _⟩
  case round =>
    obtain ⟨i, c1, rfl, rfl, hi, hc0, hc1, heq, hown, hbel⟩ := hrel
    by_cases hin : i < k
    · have hin1 : (i : Int) < k := by omega
      have ha := hau.out i wr hbel
      have hb := hav.out i wr hbel
      obtain ⟨s1, s2⟩ := sub_step _ _ _ c1 heq.out hc0 hc1
      rw [← half_pow, ← half_pow, ← half_pow] at s1 s2
      have hrow : Hid (∀ x : Int, ((S / 2 ^ i % 2 : Nat) : Int) = x → bitRow S (i + 1) = bitRow S i ++ [.int .i64 x]) := fun x hx => by rw [bitRow_succ, hx]
      have hpa : A / 2 ^ i % 2 ≤ 1 := by omega
      have hqa : B / 2 ^ i % 2 ≤ 1 := by omega
      have s1H : Hid _ := s1
      have s2H : Hid _ := s2
      clear s1 s2 heq hau hav hA0 hB0 hS
      generalize A / 2 ^ i % 2 = pa at *
      generalize B / 2 ^ i % 2 = qa at *
      generalize S / 2 ^ i % 2 = sa at *
      by_cases hx : (pa : Int) - (qa : Int) + c1 < 0
      · obtain ⟨e1, e2⟩ := s1H.out hx
        have e1H : Hid _ := e1
        have e2H : Hid _ := e2
        clear e1 e2 s1H s2H
        go_wp2_with (first | (go_at_call 23; refine (at_is (by assumption)).mono ?_; rintro e w' ⟨rfl, he⟩; subst w') | (at_builtin; refine wpList_append_own _ rfl _ _ 39 rfl w.heap.size 2 i0 (.int .i64 0) 1 8 Try.underlying39 hi0 hz0 hz1 hz2 rfl (by decide) _ _ _ rfl (hown.alloc _) ⟨wr.heap.size, 0, none⟩ 1 1 [.int .i64 ((pa : Int) - (qa : Int) + c1 + 2)] rfl rfl ?c1 ?c2 ?c3 ?c4 ?c5 ?_))
        try (case c1 =>
          intro j u hj
          match j, hj with
          | 0, hj => simp at hj; subst hj; simp [Addr.add])
        try (case c2 => first | rfl | (intro u hu; simp at hu; subst hu; rfl))
        case c3 => unfold maxLen; omega
        case c4 => omega
        case c5 => have := hbel.size; simp; omega
        intro v' w1 hown' hgrow _
        have hb1 : Below w.heap.size w w1 := (hbel.alloc hbel.size _).grown hgrow (by have := hbel.size; simp; omega) (fun j hj => by
          obtain ⟨_, ⟨rfl, _⟩ | ⟨g, cap, cur, rfl, hg, _⟩⟩ := hown
          · simp [Value.ownBlock] at hj
          · simp [Value.ownBlock] at hj; omega)
        clear hgrow hown
        go_wp2
        go_roundw
        case rel => exact ⟨i + 1, -1, by simp, rfl, by omega, by omega, by omega, e2H.out, by rw [hrow.out _ e1H.out]; exact hown', hb1⟩
        case measure => first | (simp [intOf]; done) | (simp [intOf]; omega)
      · obtain ⟨e1, e2⟩ := s2H.out hx
        have e1H : Hid _ := e1
        have e2H : Hid _ := e2
        have hx2 : ¬ 1 < (pa : Int) - (qa : Int) + c1 := by omega
        clear e1 e2 s1H s2H
        go_wp2_with (first | (go_at_call 23; refine (at_is (by assumption)).mono ?_; rintro e w' ⟨rfl, he⟩; subst w') | (at_builtin; refine wpList_append_own _ rfl _ _ 39 rfl w.heap.size 2 i0 (.int .i64 0) 1 8 Try.underlying39 hi0 hz0 hz1 hz2 rfl (by decide) _ _ _ rfl (hown.alloc _) ⟨wr.heap.size, 0, none⟩ 1 1 [.int .i64 ((pa : Int) - (qa : Int) + c1)] rfl rfl ?c1 ?c2 ?c3 ?c4 ?c5 ?_))
        try (case c1 =>
          intro j u hj
          match j, hj with
          | 0, hj => simp at hj; subst hj; simp [Addr.add])
        try (case c2 => first | rfl | (intro u hu; simp at hu; subst hu; rfl))
        case c3 => unfold maxLen; omega
        case c4 => omega
        case c5 => have := hbel.size; simp; omega
        intro v' w1 hown' hgrow _
        have hb1 : Below w.heap.size w w1 := (hbel.alloc hbel.size _).grown hgrow (by have := hbel.size; simp; omega) (fun j hj => by
          obtain ⟨_, ⟨rfl, _⟩ | ⟨g, cap, cur, rfl, hg, _⟩⟩ := hown
          · simp [Value.ownBlock] at hj
          · simp [Value.ownBlock] at hj; omega)
        clear hgrow hown
        go_wp2
        go_roundw
        case rel => exact ⟨i + 1, 0, by simp, rfl, by omega, by omega, by omega, e2H.out, by rw [hrow.out _ e1H.out]; exact hown', hb1⟩
        case measure => first | (simp [intOf]; done) | (simp [intOf]; omega)
    · have hin1 : ¬ (i : Int) < k := by omega
      obtain rfl : i = k := by omega
      have hq := heq.out
      rw [hA0.out _ (by omega), hB0.out _ (by omega)] at hq
      have hrow : Hid (bitRow S (i + 1) = bitRow S i ++ [.int .i64 c1]) := by
        show _ = _
        rw [bitRow_succ]
        congr 3
        generalize S / 2 ^ i = z at hq ⊢
        omega
      have hend : Hid (S / 2 ^ (i + 1) = 0) := by show _ = _; rw [half_pow]; generalize S / 2 ^ i = z at hq ⊢; omega
      clear hq heq hau hav hA0 hB0 hS
      go_wp2_with (first | (go_at_call 23; refine (at_is (by assumption)).mono ?_; rintro e w' ⟨rfl, he⟩; subst w') | (at_builtin; refine wpList_append_own _ rfl _ _ 39 rfl w.heap.size 2 i0 (.int .i64 0) 1 8 Try.underlying39 hi0 hz0 hz1 hz2 rfl (by decide) _ _ _ rfl (hown.alloc _) ⟨wr.heap.size, 0, none⟩ 1 1 [.int .i64 (c1)] rfl rfl ?c1 ?c2 ?c3 ?c4 ?c5 ?_))
      try (case c1 =>
        intro j u hj
        match j, hj with
        | 0, hj => simp at hj; subst hj; simp [Addr.add])
      try (case c2 => first | rfl | (intro u hu; simp at hu; subst hu; rfl))
      case c3 => unfold maxLen; omega
      case c4 => omega
      case c5 => have := hbel.size; simp; omega
      intro v' w1 hown' hgrow _
      have hb1 : Below w.heap.size w w1 := (hbel.alloc hbel.size _).grown hgrow (by have := hbel.size; simp; omega) (fun j hj => by
        obtain ⟨_, ⟨rfl, _⟩ | ⟨g, cap, cur, rfl, hg, _⟩⟩ := hown
        · simp [Value.ownBlock] at hj
        · simp [Value.ownBlock] at hj; omega)
      clear hgrow hown
      go_wp2
      go_ret
      exact ⟨_, rfl, hend.out, by rw [hrow.out]; exact hown', hb1⟩

theorem sumAdd_calls (u v : Value) (k l A B : Nat) (w : World) (hu : RowB w u k A) (hv : RowB w v l B) :
    Calls Try.prog 17 #[u, v, .bool false] w fun e w' => ∃ r, e = .returned r ∧ (A + B) / 2 ^ (max k l + 1) = 0 ∧ w'.ownsRow w.heap.size 2 1 r (max k l + 1) (bitRow (A + B) (max k l + 1)) ∧ Below w.heap.size w w' := by
  by_cases h : (k : Int) < (l : Int)
  · rw [show max k l = l by omega]; exact sumAddL u v k l A B w hu hv h
  · rw [show max k l = k by omega]; exact sumAddK u v k l A B w hu hv h
theorem sumSub_calls (u v : Value) (k l A B : Nat) (w : World) (hu : RowB w u k A) (hv : RowB w v l B) (hBA : B ≤ A) :
    Calls Try.prog 17 #[u, v, .bool true] w fun e w' => ∃ r, e = .returned r ∧ (A - B) / 2 ^ (max k l + 1) = 0 ∧ w'.ownsRow w.heap.size 2 1 r (max k l + 1) (bitRow (A - B) (max k l + 1)) ∧ Below w.heap.size w w' := by
  by_cases h : (k : Int) < (l : Int)
  · rw [show max k l = l by omega]; exact sumSubL u v k l A B w hu hv h hBA
  · rw [show max k l = k by omega]; exact sumSubK u v k l A B w hu hv h hBA
end Go.Proofs.Ytjkmoggajpkdeaa
