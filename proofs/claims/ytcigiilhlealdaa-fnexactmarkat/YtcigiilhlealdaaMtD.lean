/- The law of a marked heap behind ops, walked. -/
import Derived.Test.YtcigiilhlealdaaMtC
import Derived.Test.YtcigiilhlealdaaMrI
namespace Go.Proofs.Ytcigiilhlealdaa
set_option linter.unusedVariables false
open Go.ChangeShapes Go.WideShapes Go.ChangeAt Go.RowKit

theorem atM_bounds (mode : Int) (ops : List OpM) : (atM mode ops).os.length ≤ 400 ∧ (∀ x ∈ (atM mode ops).os, x.flds.length ≤ 6) ∧ (atM mode ops).rs.length ≤ 8 ∧ (atM mode ops).qs.length ≤ 400 := by
  unfold atM
  split
  · rename_i h
    simp [runOk] at h
    have g : GoodM (runM (newM mode) ops) := (GoodM.new h.1).run _
    have h1 := therL_len (runM (newM mode) ops).obs
    have h2 := g.len
    have h3 := g.inv.rowlen
    exact ⟨by show (obsP _).length ≤ _; rw [obsP_length]; omega, obsP_six g.fl, by show (runM (newM mode) ops).roots.length ≤ _; rw [g.inv.rl]; omega, by show (runM (newM mode) ops).row.length ≤ _; omega⟩
  · simp
set_option maxRecDepth 100000 in
set_option maxHeartbeats 1000000 in
theorem markNoOb_calls (k : Int) (w : World) : Calls Try.prog 43 #[.slice none 0 0, .int .i64 k] w fun e w' => e = .returned (.int .i64 k) ∧ w' = w := by
  go_enter Try.func43, Try.ntmps43
  go_wp2
  go_loopw [1, 5] (fun kv i wr => kv = .int .i64 k ∧ i = .int .i64 0 ∧ wr = w) (fun _ i _ => (intOf i).toNat)
  case atStart => exact ⟨rfl, rfl, rfl⟩
  case round =>
    obtain ⟨rfl, rfl, hw⟩ := hrel
    have hw2 := hw.symm
    subst hw2
    go_wp2
    go_ret
    exact ⟨rfl, by first | trivial | rfl⟩
set_option maxRecDepth 100000 in
set_option maxHeartbeats 1000000 in
theorem markNoHp_calls (k : Int) (cyc : Bool) (w : World) (lo hi : Nat) (hlo : lo ≤ w.heap.size) (hk0 : 0 ≤ k) (hk1 : k ≤ 1000) : Calls Try.prog 22 #[.agg #[.slice none 0 0, .slice none 0 0, .bool cyc, .slice none 0 0], .int .i64 k] w fun e w' => e = .returned (.int .i64 k) ∧ Touch lo hi w w' := by
  have c1 : Hid (∀ W, Calls Try.prog 43 #[.slice none 0 0, .int .i64 k] W fun e w' => e = .returned (.int .i64 k) ∧ w' = W) := fun W => markNoOb_calls k W
  have c2 : Hid (∀ W, Calls Try.prog 38 #[.slice none 0 0, .int .i64 k] W fun e w' => e = .returned (.int .i64 k) ∧ Below W.heap.size W w') := fun W => (markInts_calls (.slice none 0 0) [] k W W.heap.size W.heap.size (Nat.le_refl _) (.inl ⟨rfl, _, _, rfl⟩) hk0 (by omega) (by simp)).mono fun e w' ⟨h1, h2, _⟩ => ⟨by rw [h1]; simp, h2.2.1⟩
  obtain ⟨W0, hW0⟩ : ∃ W0, W0 = w.alloc (.cells #[.slice none 0 0, .slice none 0 0, .bool cyc, .slice none 0 0] 37) := ⟨_, rfl⟩
  have hB : Hid (Below w.heap.size w W0) := by rw [hW0]; exact below_1 _ _
  have hr : Hid (∀ W, Below W0.heap.size W0 W → W.rangeAt w.heap.size 0 [.slice none 0 0, .slice none 0 0, .bool cyc, .slice none 0 0]) := fun W hb => rangeB hb (by rw [hW0]; simp) (by rw [hW0]; exact rangeAt_heap (heap_alloc_new w _))
  have hk2 : ¬ (k < 0) := by omega
  go_enter Try.func22, Try.ntmps22
  go_upto_region 1 with fail
  rw [← hW0]
  have k0 : W0.cell? ⟨w.heap.size, 0, none⟩ = some (.slice none 0 0) := hr.out W0 (Below.refl _ _) 0 _ rfl
  clear hW0
  go_wp2_with fail
  refine (show Calls _ _ _ _ _ from c1.out _).mono ?_
  rintro e w1 ⟨rfl, hw⟩
  subst hw
  have k1 : w1.cell? ⟨w.heap.size, 1, none⟩ = some (.slice none 0 0) := hr.out w1 (Below.refl _ _) 1 _ rfl
  go_wp2_with fail
  refine (show Calls _ _ _ _ _ from c2.out _).mono ?_
  rintro e w2 ⟨rfl, hb2⟩
  have k3 : w2.cell? ⟨w.heap.size, 3, none⟩ = some (.slice none 0 0) := hr.out w2 hb2 3 _ rfl
  have H2 : Hid (Below w.heap.size w w2) := below_on2 hB.out hb2
  clear k0 k1 hb2
  go_wp2_with fail
  refine (show Calls _ _ _ _ _ from c2.out _).mono ?_
  rintro e w3 ⟨rfl, hb3⟩
  have H3 : Hid (Below w.heap.size w w3) := below_on2 H2.out hb3
  clear k3 hb3
  go_wp2
  go_ret
  exact ⟨rfl, Touch.below H3.out hlo⟩
/-- A heap that the program gave, marked. -/
theorem markHpO_calls {lo hi : Nat} {w : World} {o r q : Value} {x : HpM} (h : HpO lo hi w o r q x) (hlo : lo ≤ w.heap.size) (k : Int) (hk0 : 0 ≤ k) (hk1 : k ≤ 1000) (hn : x.os.length ≤ 400) (hg : ∀ y ∈ x.os, y.flds.length ≤ 6) (h1 : x.rs.length ≤ 8) (h2 : x.qs.length ≤ 400) :
    Calls Try.prog 22 #[.agg #[o, r, .bool x.cyc, q], .int .i64 k] w fun e w' => e = .returned (.int .i64 (k + szP x.os + x.rs.length + x.qs.length)) ∧ Touch lo hi w w' ∧ HpR lo hi w' o r q (markP k x.os) (iota (k + szP x.os) x.rs.length) (iota (k + szP x.os + x.rs.length) x.qs.length) := by
  rcases h with ⟨a1, a2, a3, rfl, rfl, rfl⟩ | ⟨b, c, gs, m1, m2, e, h⟩
  · refine (markNoHp_calls k x.cyc w lo hi hlo hk0 hk1).mono ?_
    rintro e w' ⟨he, hT⟩
    rw [a1, a2, a3]
    refine ⟨by rw [he]; simp [szP], hT, ⟨⟨⟨_, _, rfl⟩, fun j hj => by simp [markP] at hj⟩, .inl ⟨rfl, _, _, rfl⟩, .inl ⟨rfl, _, _, rfl⟩⟩⟩
  · subst e
    exact markHeap_calls r q x.cyc x.os x.rs x.qs k w lo m1 m2 hi b c gs h hk0 hk1 hn hg h1 h2
end Go.Proofs.Ytcigiilhlealdaa
