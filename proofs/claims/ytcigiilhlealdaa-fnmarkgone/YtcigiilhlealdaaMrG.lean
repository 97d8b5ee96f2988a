/- Rows of answers compared, marked, looked at. -/
import Derived.Test.YtcigiilhlealdaaMrE
import Derived.StillTailTactics
namespace Go.Proofs.Ytcigiilhlealdaa
set_option linter.unusedVariables false
open Go.ChangeShapes Go.WideShapes Go.ChangeAt Go.RowKit

set_option maxRecDepth 100000 in
set_option maxHeartbeats 1000000 in
theorem eqObs_calls (x : AnsM) (g1 g2 : Value) (w : World) (lo1 hi1 lo2 hi2 : Nat) (h1 : IntsAt lo1 hi1 w g1 x.gone) (h2 : IntsAt lo2 hi2 w g2 x.gone) (hh1 : hi1 ≤ w.heap.size) (hh2 : hi2 ≤ w.heap.size) (hn : x.gone.length ≤ 400) :
    Calls Try.prog 36 #[.agg #[.int .i64 x.code, .int .i64 x.n, .int .i64 x.grey, g1], .agg #[.int .i64 x.code, .int .i64 x.n, .int .i64 x.grey, g2]] w fun e w' => e = .returned (.bool true) ∧ Below w.heap.size w w' := by
  have hq : Hid (∀ W, Below w.heap.size w W → Calls Try.prog 42 #[g1, g2] W fun e w' => e = .returned (.bool true) ∧ ∃ n, w' = W.drewN n) := fun W hW => eqInts_calls g1 g2 x.gone W lo1 hi1 lo2 hi2 (h1.kept ((Same.below hW).mono (Nat.zero_le _) hh1)) (h2.kept ((Same.below hW).mono (Nat.zero_le _) hh2)) (by omega)
  obtain ⟨a1, c1, rfl⟩ := h1.form
  obtain ⟨a2, c2, rfl⟩ := h2.form
  obtain ⟨code, n, grey, gone⟩ := x
  simp only at hq hn ⊢
  generalize gone.length = gl at *
  have hb : Hid (Below w.heap.size w ((w.alloc (.cells #[.int .i64 code, .int .i64 n, .int .i64 grey, .slice a1 gl c1] 33)).alloc (.cells #[.int .i64 code, .int .i64 n, .int .i64 grey, .slice a2 gl c2] 33))) := below_on2 (below_1 _ _) (below_1 _ _)
  clear h1 h2 hh1 hh2 hn
  go_enter Try.func36, Try.ntmps36
  go_wp2_with (go_at_call 42; refine (show Calls _ _ _ _ _ from hq.out _ hb.out).mono ?_; rintro e w1 ⟨rfl, n1, hw⟩; have hwH : Hid _ := hw; clear hw)
  go_ret
  exact ⟨rfl, by rw [hwH.out]; exact below_on2 hb.out (below_drewN (Below.refl _ _) _)⟩
set_option maxRecDepth 100000 in
set_option maxHeartbeats 1000000 in
theorem eqObsS_calls (u v : Value) (xs : List AnsM) (w : World) (lo1 hi1 lo2 hi2 : Nat) (hh1 : hi1 ≤ w.heap.size) (hh2 : hi2 ≤ w.heap.size) (hu : AnsR lo1 hi1 w u xs) (hv : AnsR lo2 hi2 w v xs) (hn : xs.length ≤ 500) (hg : ∀ x ∈ xs, x.gone.length ≤ 400) :
    Calls Try.prog 15 #[u, v] w fun e w' => e = .returned (.bool true) ∧ Below w.heap.size w w' := by
  obtain ⟨a1, c1, rfl⟩ := hu.form
  obtain ⟨a2, c2, rfl⟩ := hv.form
  have huH : Hid (∀ W, Below w.heap.size w W → AnsR lo1 hi1 W (.slice a1 xs.length c1) xs) := fun W hW => hu.kept ((Same.below hW).mono (Nat.zero_le _) hh1)
  have hvH : Hid (∀ W, Below w.heap.size w W → AnsR lo2 hi2 W (.slice a2 xs.length c2) xs) := fun W hW => hv.kept ((Same.below hW).mono (Nat.zero_le _) hh2)
  have hgH : Hid (∀ x ∈ xs, x.gone.length ≤ 400) := hg
  have hhH : Hid (hi1 ≤ w.heap.size ∧ hi2 ≤ w.heap.size) := ⟨hh1, hh2⟩
  have hn' : (xs.length : Int) ≤ 500 := by omega
  clear hu hv hg hh1 hh2
  go_enter Try.func15, Try.ntmps15
  go_wp2
  go_loopw [5] (fun i wr => ∃ m : Nat, m ≤ xs.length ∧ i = .int .i64 m ∧ Hid (Below w.heap.size w wr)) (fun i _ => xs.length - (intOf i).toNat)
  case atStart => exact ⟨0, Nat.zero_le _, rfl, Below.refl _ _⟩
  case round =>
    obtain ⟨m, hm, rfl, hB⟩ := hrel
    have hm0 : (0 : Int) ≤ m := by omega
    by_cases hlt : m < xs.length
    · have hlt' : (m : Int) < (xs.length : Int) := by omega
      obtain ⟨b1, o1, d1, g1, e1, _, _, r1, i1⟩ := (huH.out wr hB.out).at_ m hlt
      obtain ⟨b2, o2, d2, g2, e2, _, _, r2, i2⟩ := (hvH.out wr hB.out).at_ m hlt
      injection e1 with e1 _ ec1
      injection e2 with e2 _ ec2
      subst e1
      subst e2
      subst ec1
      subst ec2
      have hsz := hB.out.size
      have heq : Hid (Calls Try.prog 36 #[.agg #[.int .i64 xs[m].code, .int .i64 xs[m].n, .int .i64 xs[m].grey, g1], .agg #[.int .i64 xs[m].code, .int .i64 xs[m].n, .int .i64 xs[m].grey, g2]] wr.drew fun e w' => e = .returned (.bool true) ∧ Below wr.heap.size wr w') := (eqObs_calls xs[m] g1 g2 wr.drew lo1 hi1 lo2 hi2 (i1.kept ((Same.below (Below.drew (Below.refl _ _))).mono (Nat.zero_le _) (by have := hhH.out.1; omega))) (i2.kept ((Same.below (Below.drew (Below.refl _ _))).mono (Nat.zero_le _) (by have := hhH.out.2; omega))) (by have := hhH.out.1; show _ ≤ wr.heap.size; omega) (by have := hhH.out.2; show _ ≤ wr.heap.size; omega) (hgH.out _ (List.getElem_mem hlt))).mono fun e w' q => ⟨q.1, below_on2 (Below.drew (Below.refl _ _)) q.2⟩
      have p0 := r1 0 _ rfl
      have p1 := r1 1 _ rfl
      have p2 := r1 2 _ rfl
      have p3 := r1 3 _ rfl
      have q0 := r2 0 _ rfl
      have q1 := r2 1 _ rfl
      have q2 := r2 2 _ rfl
      have q3 := r2 3 _ rfl
      rw [Nat.add_zero] at p0 q0
      obtain ⟨x1, y1, rfl⟩ := i1.form
      obtain ⟨x2, y2, rfl⟩ := i2.form
      have hBH : Hid (Below w.heap.size w wr) := hB
      clear r1 r2 i1 i2 hB hsz
      generalize xs[m] = x at *
      obtain ⟨code, n, grey, gone⟩ := x
      simp only at p0 p1 p2 p3 q0 q1 q2 q3 heq
      generalize gone.length = gl at *
      go_wp2_with fail
      go_still_tail 8, (by kernel_rfl)
      go_wp2_with (go_at_call 36; refine (show Calls _ _ _ _ _ from heq.out).mono ?_; rintro e w1 ⟨rfl, hb1⟩; have hbH : Hid _ := below_on2 hBH.out hb1; clear hb1)
      go_roundw
      case rel => exact ⟨m + 1, by omega, by go_num, hbH⟩
      case measure => simp [intOf]; omega
    · have hge : ¬ ((m : Int) < (xs.length : Int)) := by omega
      go_wp2
      go_ret
      exact ⟨rfl, hB.out⟩
/-- Marked: numbers from k on. -/
def markA : Int → List AnsM → List AnsM
  | _, [] => []
  | k, x :: xs => ⟨k, k + 1, k + 2, iota (k + 3) x.gone.length⟩ :: markA (k + 3 + x.gone.length) xs
def szA : List AnsM → Nat
  | [] => 0
  | x :: xs => 3 + x.gone.length + szA xs
theorem markA_length : ∀ (xs : List AnsM) (k : Int), (markA k xs).length = xs.length
  | [], _ => rfl
  | x :: xs, k => by simp [markA, markA_length xs]
theorem szA_take : ∀ (xs : List AnsM) (m : Nat) (h : m < xs.length), szA (xs.take (m + 1)) = szA (xs.take m) + 3 + xs[m].gone.length
  | x :: xs, 0, _ => by simp [szA]
  | x :: xs, m + 1, h => by
    have := szA_take xs m (by simpa using h)
    simp only [List.take_succ_cons, szA, List.getElem_cons_succ, this]
    omega
  | [], _, h => by simp at h
theorem markA_get : ∀ (xs : List AnsM) (k : Int) (m : Nat) (h : m < xs.length), (markA k xs)[m]'(by rw [markA_length]; exact h) = ⟨k + szA (xs.take m), k + szA (xs.take m) + 1, k + szA (xs.take m) + 2, iota (k + szA (xs.take m) + 3) xs[m].gone.length⟩
  | x :: xs, k, 0, _ => by simp [markA, szA]
  | x :: xs, k, m + 1, h => by
    have := markA_get xs (k + 3 + x.gone.length) m (by simpa using h)
    simp only [markA, List.getElem_cons_succ, this, List.take_succ_cons, szA]
    have e : k + 3 + (x.gone.length : Int) + (szA (xs.take m) : Int) = k + ((3 + x.gone.length + szA (xs.take m) : Nat) : Int) := by omega
    rw [e]
  | [], _, _, h => by simp at h
theorem szA_le : ∀ (xs : List AnsM) (m : Nat), szA (xs.take m) ≤ szA xs
  | [], _ => by simp [szA]
  | x :: xs, 0 => by simp [szA]
  | x :: xs, m + 1 => by have := szA_le xs m; simp only [List.take_succ_cons, szA]; omega
theorem szA_bound : ∀ (xs : List AnsM), (∀ x ∈ xs, x.gone.length ≤ 400) → szA xs ≤ xs.length * 403
  | [], _ => by simp [szA]
  | x :: xs, h => by
    have := szA_bound xs (fun y hy => h y (by simp [hy]))
    have := h x (by simp)
    simp only [szA, List.length_cons]
    omega
set_option maxRecDepth 100000 in
set_option maxHeartbeats 1000000 in
theorem heldObsS_calls (v : Value) (xs : List AnsM) (k : Int) (w : World) (lo hi : Nat) (h : AnsR lo hi w v (markA k xs)) (hk0 : 0 ≤ k) (hk1 : k ≤ 1000000) (hn : xs.length ≤ 500) (hg : ∀ x ∈ xs, x.gone.length ≤ 400) :
    Calls Try.prog 19 #[v, .int .i64 k] w fun e w' => e = .returned (.int .i64 (k + szA xs)) ∧ w' = w := by
  obtain ⟨a, c, rfl⟩ := h.form
  rw [markA_length] at h ⊢
  have hH : Hid (AnsR lo hi w (.slice a xs.length c) (markA k xs)) := h
  have hgH : Hid (∀ x ∈ xs, x.gone.length ≤ 400) := hg
  have hsz := szA_bound xs hg
  have hn' : (xs.length : Int) ≤ 500 := by omega
  clear h hg
  go_enter Try.func19, Try.ntmps19
  go_wp2
  go_loopw [1, 5] (fun kv i wr => ∃ m : Nat, m ≤ xs.length ∧ kv = .int .i64 (k + szA (xs.take m)) ∧ i = .int .i64 m ∧ wr = w) (fun _ i _ => xs.length - (intOf i).toNat)
  case atStart => exact ⟨0, Nat.zero_le _, by simp [szA], rfl, rfl⟩
  case round =>
    obtain ⟨m, hm, rfl, rfl, hw⟩ := hrel
    have hw2 := hw.symm
    subst hw2
    clear hw
    have hm0 : (0 : Int) ≤ m := by omega
    by_cases hlt : m < xs.length
    · have hlt' : (m : Int) < (xs.length : Int) := by omega
      obtain ⟨b, o, d, g, e1, _, _, r1, i1⟩ := hH.out.at_ m (by rw [markA_length]; exact hlt)
      rw [markA_get xs k m hlt] at r1 i1
      injection e1 with e1 eln ec1
      clear eln
      subst e1
      subst ec1
      have hgl := hgH.out _ (List.getElem_mem hlt)
      have hst : Hid (szA (xs.take (m + 1)) = szA (xs.take m) + 3 + xs[m].gone.length) := szA_take xs m hlt
      have hle := szA_le xs m
      have hle2 := szA_le xs (m + 1)
      rw [hst.out] at hle2
      have hheld : Hid (Calls Try.prog 39 #[g, .int .i64 (k + szA (xs.take m) + 3)] w fun e w' => e = .returned (.int .i64 (k + szA (xs.take m) + 3 + (xs[m].gone.length : Nat))) ∧ w' = w) := heldInts_calls g xs[m].gone.length (k + szA (xs.take m) + 3) w lo hi i1 (by omega) (by omega) (by omega)
      have p0 := r1 0 _ rfl
      have p1 := r1 1 _ rfl
      have p2 := r1 2 _ rfl
      have p3 := r1 3 _ rfl
      rw [Nat.add_zero] at p0
      obtain ⟨x1, y1, hgf⟩ := i1.form
      subst hgf
      clear r1 i1
      generalize xs[m].gone.length = gl at *
      generalize szA (xs.take m) = sm at *
      simp only [iota_length] at p0 p1 p2 p3 hheld
      obtain ⟨kk, hkk⟩ : ∃ kk, kk = k + (sm : Int) := ⟨_, rfl⟩
      rw [← hkk] at p0 p1 p2 hheld ⊢
      have hkkH : Hid (kk = k + (sm : Int)) := hkk
      have hkk0 : 0 ≤ kk := by omega
      have hkk1 : kk + 3 + gl ≤ 1500000 := by omega
      have hnn : ¬ (kk + 3 + (gl : Int) < 0) := by omega
      have hz1 : (kk != kk) = false := by simp
      have hz2 : (kk + 1 != kk + 1) = false := by simp
      have hz3 : (kk + 2 != kk + 1 + 1) = false := by simp; omega
      have hz4 : kk + 1 + 1 + 1 = kk + 3 := by omega
      clear hkk hle hle2 hgl
      go_wp2_with (go_at_call 39; refine (show Calls _ _ _ _ _ from hheld.out).mono ?_; rintro e w1 ⟨rfl, hw1⟩; subst hw1)
      go_roundw
      case rel => exact ⟨m + 1, by omega, by rw [hst.out]; have := hkkH.out; congr 1; omega, by go_num, by first | trivial | rfl⟩
      case measure => simp [intOf]; omega
    · have hmE : m = xs.length := by omega
      have hge : ¬ ((m : Int) < (xs.length : Int)) := by omega
      subst hmE
      go_wp2
      go_ret
      exact ⟨by simp, by first | trivial | rfl⟩
end Go.Proofs.Ytcigiilhlealdaa
