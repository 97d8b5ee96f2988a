/- The program's marker: what a root holds, what a field's code is. -/
import Derived.Test.YtcigiilhlealdaaKmI
import Derived.BigQuiet
namespace Go.Proofs.Ytcigiilhlealdaa
set_option linter.unusedVariables false
open Go.ChangeShapes Go.WideShapes Go.ChangeAt Go.RowKit

set_option maxRecDepth 100000 in
set_option maxHeartbeats 1000000 in
theorem held_calls (w : World) (F : Nat → Prop) (M : Nat) (s : StM) (ps fs : List Nat) (ov tv : Value) (a : Nat) (h : ImW w F M s ps fs ov tv) (hi : InvM s) (hl : s.obs.length ≤ 400) (ha : a < 8) :
    (∀ o, getM s.obs (rootM s a) = some o → Calls Try.prog 68 #[.pointer (some ⟨M, 0, none⟩), .int .i64 a] w fun e w' => e = .returned (.pointer (some ⟨ps.getD ((rootM s a).toNat - 1) 0, 0, none⟩)) ∧ ∃ n, w' = w.drewN n) ∧
    (getM s.obs (rootM s a) = none → Calls Try.prog 68 #[.pointer (some ⟨M, 0, none⟩), .int .i64 a] w fun e w' => e = .returned (.pointer none) ∧ ∃ n, w' = w.drewN n) := by
  have hr := rootM_nat hi.rl ha
  have hrng := rootM_rng hi a
  have kr : w.cell? ⟨M, 2 + a, none⟩ = some (.int .i64 (rootM s a)) := by rw [hr]; exact h.mode.2.2.2.2.1 a ha
  have k1 : w.cell? ⟨M, 1, none⟩ = some ov := h.mode.2.1
  obtain ⟨tg, tc, rfl, htab⟩ := h.tab
  have kt := htab (rootM s a) hrng.1 hrng.2
  generalize rootM s a = z at kr kt hrng ⊢
  obtain ⟨zn, rfl⟩ : ∃ zn : Nat, z = zn := ⟨z.toNat, by omega⟩
  rw [Int.toNat_natCast] at kt ⊢
  have ha8 : (a : Int) < 8 := by omega
  have hz1 : (zn : Int) < (s.obs.length : Int) + 1 := by omega
  have hl' : (s.obs.length : Int) ≤ 400 := by omega
  clear htab hr h hi
  refine ⟨fun o hg => ?_, fun hg => ?_⟩
  · rw [hg] at kt
    clear hg
    simp only at kt
    generalize ps.getD (zn - 1) 0 = pp at kt
    go_enter Try.func68, Try.ntmps68
    go_wp2_with fail
    go_quiet (fail)
    go_wp2
    go_ret
    exact ⟨rfl, nq, rfl⟩
  · rw [hg] at kt
    clear hg
    simp only at kt
    go_enter Try.func68, Try.ntmps68
    go_wp2_with fail
    go_quiet (fail)
    go_wp2
    go_ret
    exact ⟨rfl, nq, rfl⟩
set_option maxRecDepth 100000 in
set_option maxHeartbeats 1000000 in
theorem fieldCode_calls (w : World) (F : Nat → Prop) (M : Nat) (s : StM) (ps fs : List Nat) (ov tv : Value) (a : Nat) (c : Int) (h : ImW w F M s ps fs ov tv) (hi : InvM s) (hl : s.obs.length ≤ 400) (ha : a < 8) (h6 : ∀ o ∈ s.obs, o.flds.length ≤ 6) :
    Calls Try.prog 66 #[.pointer (some ⟨M, 0, none⟩), .int .i64 a, .int .i64 c] w fun e w' => e = .returned (.int .i64 (fcodeM s (rootM s a) c)) ∧ ∃ n, w' = w.drewN n := by
  obtain ⟨hs, hn⟩ := held_calls w F M s ps fs ov tv a h hi hl ha
  cases hg : getM s.obs (rootM s a) with
  | none =>
    have hc : Hid _ := hn hg
    have hcd : Hid (fcodeM s (rootM s a) c = 2) := fcodeM_none hg
    generalize fcodeM s (rootM s a) c = cd at hcd
    clear hs hn h hi h6 hg
    go_enter Try.func66, Try.ntmps66
    go_wp2_with (go_at_call 68; refine (show Calls _ _ _ _ _ from hc.out).mono ?_; rintro e w1 ⟨rfl, n1, hw1⟩; have hw1H : Hid _ := hw1; clear hw1)
    go_ret
    exact ⟨by rw [hcd.out]; rfl, n1, hw1H.out⟩
  | some o =>
    have hc : Hid _ := hs o hg
    have hcd : Hid (fcodeM s (rootM s a) c = if 0 ≤ c ∧ c < (o.flds.length : Int) then 0 else 3) := fcodeM_some hg
    have hob := h.ob.get hg
    have ho6 : (o.flds.length : Int) ≤ 6 := by have := h6 o (getM_mem hg); omega
    generalize fcodeM s (rootM s a) c = cd at hcd
    generalize ps.getD ((rootM s a).toNat - 1) 0 = pp at hc hob
    generalize fs.getD ((rootM s a).toNat - 1) 0 = ff at hob
    have k1 : Hid (∀ n, (w.drewN n).cell? ⟨pp, 1, none⟩ = some (.slice (some ⟨ff, 0, none⟩) o.flds.length o.flds.length)) := fun n => cell_of hob.blk rfl
    have hwi : Hid (∀ W, Calls Try.prog 82 #[.int .i64 c, .int .i64 o.flds.length] W fun e w' => e = .returned (.bool (decide (0 ≤ c) && decide (c < (o.flds.length : Int)))) ∧ w' = W) := fun W => within_calls c _ W
    clear hs hn h hi h6 hg hob
    by_cases hin : 0 ≤ c ∧ c < (o.flds.length : Int)
    · have hb : (decide (0 ≤ c) && decide (c < (o.flds.length : Int))) = true := by simp [hin]
      rw [hb] at hwi
      have hcd0 : Hid (cd = 0) := by have := hcd.out; rw [if_pos hin] at this; exact this
      clear hcd hin hb
      go_enter Try.func66, Try.ntmps66
      go_wp2_with (first
        | (go_at_call 68; refine (show Calls _ _ _ _ _ from hc.out).mono ?_; rintro e w1 ⟨rfl, n1, hw1⟩; subst hw1; have kk := k1.out n1; have hD : Hid (∃ n, w.drewN n1 = w.drewN n) := ⟨n1, rfl⟩; generalize w.drewN n1 = W1 at kk hD ⊢)
        | (go_at_call 82; refine (show Calls _ _ _ _ _ from hwi.out _).mono ?_; rintro e w2 ⟨rfl, hw2⟩; subst hw2))
      go_ret
      exact ⟨by rw [hcd0.out]; rfl, hD.out⟩
    · have hb : (decide (0 ≤ c) && decide (c < (o.flds.length : Int))) = false := by simp; omega
      rw [hb] at hwi
      have hcd0 : Hid (cd = 3) := by have := hcd.out; rw [if_neg hin] at this; exact this
      clear hcd hin hb
      go_enter Try.func66, Try.ntmps66
      go_wp2_with (first
        | (go_at_call 68; refine (show Calls _ _ _ _ _ from hc.out).mono ?_; rintro e w1 ⟨rfl, n1, hw1⟩; subst hw1; have kk := k1.out n1; have hD : Hid (∃ n, w.drewN n1 = w.drewN n) := ⟨n1, rfl⟩; generalize w.drewN n1 = W1 at kk hD ⊢)
        | (go_at_call 82; refine (show Calls _ _ _ _ _ from hwi.out _).mono ?_; rintro e w2 ⟨rfl, hw2⟩; subst hw2))
      go_ret
      exact ⟨by rw [hcd0.out]; rfl, hD.out⟩
end Go.Proofs.Ytcigiilhlealdaa
