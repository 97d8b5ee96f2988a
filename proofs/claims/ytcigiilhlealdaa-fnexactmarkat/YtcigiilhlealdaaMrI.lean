/- Ops marked; how long an answer's rows are. -/
import Derived.Test.YtcigiilhlealdaaMrH
namespace Go.Proofs.Ytcigiilhlealdaa
set_option linter.unusedVariables false
open Go.ChangeShapes Go.WideShapes Go.ChangeAt Go.RowKit

set_option maxRecDepth 100000 in
set_option maxHeartbeats 1000000 in
theorem markMopS_calls (v : Value) (xs : List OpM) (k : Int) (w : World) (lo hi : Nat) (h : ListAt MopR 4 true lo hi w v xs) (hh : hi ≤ w.heap.size) (hk0 : 0 ≤ k) (hk1 : k ≤ 1000000) (hn : xs.length ≤ 1048576) :
    Calls Try.prog 17 #[v, .int .i64 k] w fun e w' => (∃ r : Int, e = .returned (.int .i64 r) ∧ 0 ≤ r) ∧ Touch lo hi w w' := by
  rcases h with ⟨h, _⟩ | ⟨b, off, c, rfl, hlo, hhi, ho, hc⟩
  · simp at h
  obtain ⟨rfl, hroom0, _⟩ := ho rfl
  clear hc ho
  generalize xs.length = n at *
  have hR : Hid (w.there b 0 (n * 4)) := hroom0
  have hL : Hid (lo ≤ b ∧ b < hi ∧ hi ≤ w.heap.size) := ⟨hlo, hhi, hh⟩
  have hn' : (n : Int) ≤ 1048576 := by omega
  clear hroom0 hlo hhi hh
  go_enter Try.func17, Try.ntmps17
  go_wp2
  go_loopw [1, 5] (fun kv i wr => ∃ m : Nat, m ≤ n ∧ kv = .int .i64 (k + 4 * m) ∧ i = .int .i64 m ∧ Hid (Touch lo hi w wr)) (fun _ i _ => n - (intOf i).toNat)
  case atStart => exact ⟨0, Nat.zero_le _, by simp, rfl, Touch.refl _ _ _⟩
  case round =>
    obtain ⟨m, hm, rfl, rfl, hT⟩ := hrel
    have hm0 : (0 : Int) ≤ m := by omega
    by_cases hlt : m < n
    · have hlt' : (m : Int) < (n : Int) := by omega
      have hlo := hL.out
      have hroom : wr.there b (m * 4) 4 := fun j hj => by
        have := hT.out.there (by omega) hR.out (m * 4 + j) (by omega)
        rwa [Nat.zero_add] at this
      obtain ⟨kk, hkk⟩ : ∃ kk, kk = k + 4 * (m : Int) := ⟨_, rfl⟩
      rw [← hkk]
      have hkkH : Hid (kk = k + 4 * (m : Int)) := hkk
      have hkk0 : 0 ≤ kk := by omega
      have hkk1 : kk ≤ 6000000 := by omega
      obtain ⟨W3, eW3, t1, t2, _, _, _⟩ := set3 wr b (m * 4) (.int .i64 kk) (.int .i64 (kk + 1)) (.int .i64 (kk + 1 + 1)) (fun j hj => hroom j (by omega))
      obtain ⟨y0, p0⟩ := Option.isSome_iff_exists.1 (hroom 0 (by omega)).1
      obtain ⟨y1, p1⟩ := Option.isSome_iff_exists.1 (hroom 1 (by omega)).1
      obtain ⟨y2, p2⟩ := Option.isSome_iff_exists.1 (hroom 2 (by omega)).1
      obtain ⟨y3, p3⟩ := Option.isSome_iff_exists.1 (hroom 3 (by omega)).1
      have f0 := (hroom 0 (by omega)).2
      have f1 := (hroom 1 (by omega)).2
      have f2 := (hroom 2 (by omega)).2
      have f3 := (hroom 3 (by omega)).2
      rw [Nat.add_zero] at p0 f0
      have p4 : W3.cell? ⟨b, m * 4 + 3, none⟩ = some y3 := by rw [t2 _ (.inr (by omega))]; exact p3
      have hT4 : Hid (Touch lo hi w (W3.setCell ⟨b, m * 4 + 3, none⟩ (.int .i64 (kk + 1 + 1 + 1)))) := (hT.out.trans (t1.mono (by omega) (by omega))).trans (Touch.setCell W3 b (m * 4 + 3) _ (by omega) (by omega) p4)
      rw [eW3] at hT4
      clear t1 t2 p4 eW3 hroom hT hlo hkk
      go_wp2
      go_roundw
      case rel => exact ⟨m + 1, by omega, by have := hkkH.out; congr 1; omega, by go_num, hT4⟩
      case measure => simp [intOf]; omega
    · have hmE : m = n := by omega
      have hge : ¬ ((m : Int) < (n : Int)) := by omega
      subst hmE
      go_wp2
      go_ret
      exact ⟨⟨_, rfl, by omega⟩, hT.out⟩
end Go.Proofs.Ytcigiilhlealdaa
