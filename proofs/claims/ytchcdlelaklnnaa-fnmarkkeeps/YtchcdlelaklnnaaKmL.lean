/- The program's marker: the code of an op. -/
import Derived.Test.YtchcdlelaklnnaaKmJ
import Derived.Test.YtchcdlelaklnnaaKmK
import Derived.Test.YtchcdlelaklnnaaKsN
namespace Go.Proofs.Ytchcdlelaklnnaa
set_option linter.unusedVariables false
open Go.ChangeShapes Go.WideShapes Go.ChangeAt Go.RowKit

set_option maxRecDepth 100000 in
set_option maxHeartbeats 4000000 in
theorem codeOf_calls (w : World) (F : Nat → Prop) (M : Nat) (s : StM) (ps fs : List Nat) (ov tv : Value) (op : OpM) (h : ImW w F M s ps fs ov tv) (hgd : GoodM s) :
    Calls Try.prog 27 #[.pointer (some ⟨M, 0, none⟩), opV op] w fun e w' => e = .returned (.int .i64 (codeM s op)) ∧ Below w.heap.size w w' := by
  obtain ⟨kind, a, b, c⟩ := op
  have hl : s.obs.length ≤ 400 := hgd.len
  have hI : Hid (InvM s) := hgd.inv
  have h6 : Hid (∀ o ∈ s.obs, o.flds.length ≤ 6) := hgd.fl
  have hS0 : Hid (ImW (w.alloc (.cells #[.int .i64 kind, .int .i64 a, .int .i64 b, .int .i64 c] 27)) F M s ps fs ov tv) := h.below (below_1 _ _)
  have hB0 : Hid (Below w.heap.size w (w.alloc (.cells #[.int .i64 kind, .int .i64 a, .int .i64 b, .int .i64 c] 27))) := below_1 _ _
  have hbx0 : Hid ((w.alloc (.cells #[.int .i64 kind, .int .i64 a, .int .i64 b, .int .i64 c] 27)).heap[w.heap.size]? = some (.cells #[.int .i64 kind, .int .i64 a, .int .i64 b, .int .i64 c] 27 (0, 0))) := heap_alloc_new _ _
  obtain ⟨cd, hcd⟩ : ∃ cd, cd = codeM s ⟨kind, a, b, c⟩ := ⟨_, rfl⟩
  have hcdH : Hid (cd = codeM s ⟨kind, a, b, c⟩) := hcd
  rw [← hcd]
  clear hcd h hgd
  unfold opV
  simp only
  go_enter Try.func27, Try.ntmps27
  go_upto_region 1 with fail
  obtain ⟨bx, hbx⟩ : ∃ bx, bx = w.heap.size := ⟨_, rfl⟩
  rw [← hbx] at hbx0 ⊢
  clear hbx
  generalize w.alloc (.cells #[.int .i64 kind, .int .i64 a, .int .i64 b, .int .i64 c] 27) = W0 at hS0 hB0 hbx0 ⊢
  have hop0 : Calls Try.prog 49 #[.pointer (some ⟨M, 0, none⟩), .agg #[.int .i64 kind, .int .i64 a, .int .i64 b, .int .i64 c]] W0 fun e w' => e = .returned (.bool (okM s ⟨kind, a, b, c⟩)) ∧ Below W0.heap.size W0 w' := operandsOk_calls W0 F M s ps fs ov tv ⟨kind, a, b, c⟩ hS0.out hl
  have y0 : W0.cell? ⟨bx, 0, none⟩ = some (.int .i64 kind) := cell_of hbx0.out rfl
  have y1 : W0.cell? ⟨bx, 1, none⟩ = some (.int .i64 a) := cell_of hbx0.out rfl
  have y2 : W0.cell? ⟨bx, 2, none⟩ = some (.int .i64 b) := cell_of hbx0.out rfl
  have y3 : W0.cell? ⟨bx, 3, none⟩ = some (.int .i64 c) := cell_of hbx0.out rfl
  cases hok : okM s ⟨kind, a, b, c⟩ with
  | false =>
    rw [hok] at hop0
    have hop : Hid _ := hop0
    have hc : Hid (cd = 1) := by show cd = 1; rw [hcdH.out]; exact code_bad hok
    clear hop0 hok
    go_wp2_with (go_at_call 49; refine (show Calls _ _ _ _ _ from hop.out).mono ?_; rintro e W1 ⟨rfl, hB1⟩; have hB1H : Hid _ := hB1; clear hB1)
    go_ret
    exact ⟨by rw [hc.out]; rfl, below_on2 hB0.out hB1H.out⟩
  | true =>
    rw [hok] at hop0
    have hop : Hid _ := hop0
    clear hop0
    rcases okM_kinds hok with ⟨rfl, ⟨a, rfl, ha⟩, ⟨b, rfl, hb⟩, hlt⟩ | ⟨k2, ⟨a, rfl, ha⟩, ⟨b, rfl, hb⟩⟩ | ⟨rfl, ⟨a, rfl, ha⟩⟩ | ⟨rfl, ⟨a, rfl, ha⟩⟩ | rfl | rfl
    case inl =>
      have hc : Hid (cd = 0) := by show cd = 0; rw [hcdH.out]; exact code_plain hok (by show (1 : Int) ≠ 2; omega) (by show (1 : Int) ≠ 3; omega) (by show (1 : Int) < 6; omega)
      clear hok
      go_wp2_with (go_at_call 49; refine (show Calls _ _ _ _ _ from hop.out).mono ?_; rintro e W1 ⟨rfl, hB1⟩; have hS1 : Hid _ := hS0.out.below hB1; have hBB : Hid _ := below_on2 hB0.out hB1; have hbx1 : Hid _ := (hB1.block bx (lt_of hbx0.out)).trans hbx0.out; have x0 : W1.cell? ⟨bx, 0, none⟩ = some (.int .i64 1) := cell_of hbx1.out rfl; have x1 : W1.cell? ⟨bx, 1, none⟩ = some (.int .i64 a) := cell_of hbx1.out rfl; have x2 : W1.cell? ⟨bx, 2, none⟩ = some (.int .i64 b) := cell_of hbx1.out rfl; have x3 : W1.cell? ⟨bx, 3, none⟩ = some (.int .i64 c) := cell_of hbx1.out rfl; have x10 : W1.cell? ⟨M, 10, none⟩ = some (.bool s.cyc) := hS1.out.mode.2.2.1; clear hB1 hop y0 y1 y2 y3)
      go_quiet (fail)
      go_wp2
      go_ret
      exact ⟨by rw [hc.out]; rfl, below_on2 hBB.out (drewN_lt _ _)⟩
    case inr.inl =>
      rcases k2 with rfl | rfl | rfl
      case inl =>
        have hc : Hid (cd = fcodeM s (rootM s b) c) := by show cd = _; rw [hcdH.out]; exact code_2 hok
        clear hok
        go_wp2_with (first
          | (go_at_call 49; refine (show Calls _ _ _ _ _ from hop.out).mono ?_; rintro e W1 ⟨rfl, hB1⟩; have hS1 : Hid _ := hS0.out.below hB1; have hBB : Hid _ := below_on2 hB0.out hB1; have hbx1 : Hid _ := (hB1.block bx (lt_of hbx0.out)).trans hbx0.out; have x0 : W1.cell? ⟨bx, 0, none⟩ = some (.int .i64 2) := cell_of hbx1.out rfl; have x1 : W1.cell? ⟨bx, 1, none⟩ = some (.int .i64 a) := cell_of hbx1.out rfl; have x2 : W1.cell? ⟨bx, 2, none⟩ = some (.int .i64 b) := cell_of hbx1.out rfl; have x3 : W1.cell? ⟨bx, 3, none⟩ = some (.int .i64 c) := cell_of hbx1.out rfl; have x10 : W1.cell? ⟨M, 10, none⟩ = some (.bool s.cyc) := hS1.out.mode.2.2.1; clear hB1 hop y0 y1 y2 y3)
          | (go_at_call 50; refine (fieldCode_calls W1 F M s ps fs ov tv b c hS1.out hI.out hl hb h6.out).mono ?_; rintro e W2 ⟨rfl, n2, hw2⟩; have hD : Hid (∃ n, W2 = W1.drewN n) := ⟨n2, hw2⟩; clear hw2))
        go_ret
        obtain ⟨n, hn⟩ := hD.out
        exact ⟨by rw [hc.out]; rfl, by rw [hn]; exact below_on2 hBB.out (drewN_lt _ _)⟩
      case inr.inl =>
        have hc : Hid (cd = fcodeM s (rootM s a) c) := by show cd = _; rw [hcdH.out]; exact code_3 hok
        clear hok
        go_wp2_with (first
          | (go_at_call 49; refine (show Calls _ _ _ _ _ from hop.out).mono ?_; rintro e W1 ⟨rfl, hB1⟩; have hS1 : Hid _ := hS0.out.below hB1; have hBB : Hid _ := below_on2 hB0.out hB1; have hbx1 : Hid _ := (hB1.block bx (lt_of hbx0.out)).trans hbx0.out; have x0 : W1.cell? ⟨bx, 0, none⟩ = some (.int .i64 3) := cell_of hbx1.out rfl; have x1 : W1.cell? ⟨bx, 1, none⟩ = some (.int .i64 a) := cell_of hbx1.out rfl; have x2 : W1.cell? ⟨bx, 2, none⟩ = some (.int .i64 b) := cell_of hbx1.out rfl; have x3 : W1.cell? ⟨bx, 3, none⟩ = some (.int .i64 c) := cell_of hbx1.out rfl; have x10 : W1.cell? ⟨M, 10, none⟩ = some (.bool s.cyc) := hS1.out.mode.2.2.1; clear hB1 hop y0 y1 y2 y3)
          | (go_at_call 50; refine (fieldCode_calls W1 F M s ps fs ov tv a c hS1.out hI.out hl ha h6.out).mono ?_; rintro e W2 ⟨rfl, n2, hw2⟩; have hD : Hid (∃ n, W2 = W1.drewN n) := ⟨n2, hw2⟩; clear hw2))
        go_ret
        obtain ⟨n, hn⟩ := hD.out
        exact ⟨by rw [hc.out]; rfl, by rw [hn]; exact below_on2 hBB.out (drewN_lt _ _)⟩
      case inr.inr =>
        have hc : Hid (cd = 0) := by show cd = 0; rw [hcdH.out]; exact code_plain hok (by show (4 : Int) ≠ 2; omega) (by show (4 : Int) ≠ 3; omega) (by show (4 : Int) < 6; omega)
        clear hok
        go_wp2_with (go_at_call 49; refine (show Calls _ _ _ _ _ from hop.out).mono ?_; rintro e W1 ⟨rfl, hB1⟩; have hS1 : Hid _ := hS0.out.below hB1; have hBB : Hid _ := below_on2 hB0.out hB1; have hbx1 : Hid _ := (hB1.block bx (lt_of hbx0.out)).trans hbx0.out; have x0 : W1.cell? ⟨bx, 0, none⟩ = some (.int .i64 4) := cell_of hbx1.out rfl; have x1 : W1.cell? ⟨bx, 1, none⟩ = some (.int .i64 a) := cell_of hbx1.out rfl; have x2 : W1.cell? ⟨bx, 2, none⟩ = some (.int .i64 b) := cell_of hbx1.out rfl; have x3 : W1.cell? ⟨bx, 3, none⟩ = some (.int .i64 c) := cell_of hbx1.out rfl; have x10 : W1.cell? ⟨M, 10, none⟩ = some (.bool s.cyc) := hS1.out.mode.2.2.1; clear hB1 hop y0 y1 y2 y3)
        go_quiet (fail)
        go_wp2
        go_ret
        exact ⟨by rw [hc.out]; rfl, below_on2 hBB.out (drewN_lt _ _)⟩
    case inr.inr.inl =>
      have hc : Hid (cd = 0) := by show cd = 0; rw [hcdH.out]; exact code_plain hok (by show (5 : Int) ≠ 2; omega) (by show (5 : Int) ≠ 3; omega) (by show (5 : Int) < 6; omega)
      clear hok
      go_wp2_with (go_at_call 49; refine (show Calls _ _ _ _ _ from hop.out).mono ?_; rintro e W1 ⟨rfl, hB1⟩; have hS1 : Hid _ := hS0.out.below hB1; have hBB : Hid _ := below_on2 hB0.out hB1; have hbx1 : Hid _ := (hB1.block bx (lt_of hbx0.out)).trans hbx0.out; have x0 : W1.cell? ⟨bx, 0, none⟩ = some (.int .i64 5) := cell_of hbx1.out rfl; have x1 : W1.cell? ⟨bx, 1, none⟩ = some (.int .i64 a) := cell_of hbx1.out rfl; have x2 : W1.cell? ⟨bx, 2, none⟩ = some (.int .i64 b) := cell_of hbx1.out rfl; have x3 : W1.cell? ⟨bx, 3, none⟩ = some (.int .i64 c) := cell_of hbx1.out rfl; have x10 : W1.cell? ⟨M, 10, none⟩ = some (.bool s.cyc) := hS1.out.mode.2.2.1; clear hB1 hop y0 y1 y2 y3)
      go_quiet (fail)
      go_wp2
      go_ret
      exact ⟨by rw [hc.out]; rfl, below_on2 hBB.out (drewN_lt _ _)⟩
    case inr.inr.inr.inl =>
      cases hcy : s.cyc with
      | false =>
        have hc : Hid (cd = 4) := by
          show cd = 4
          rw [hcdH.out]
          unfold codeM
          rw [if_neg (by rw [hok]; simp), if_neg (by show ¬ (7 : Int) = 2; omega), if_neg (by show ¬ (7 : Int) = 3; omega), if_pos ⟨by show (6 : Int) ≤ 7; omega, by rw [hcy]; rfl⟩]
        have hcyH : Hid (s.cyc = false) := hcy
        clear hok hcy
        go_wp2_with (go_at_call 49; refine (show Calls _ _ _ _ _ from hop.out).mono ?_; rintro e W1 ⟨rfl, hB1⟩; have hS1 : Hid _ := hS0.out.below hB1; have hBB : Hid _ := below_on2 hB0.out hB1; have hbx1 : Hid _ := (hB1.block bx (lt_of hbx0.out)).trans hbx0.out; have x0 : W1.cell? ⟨bx, 0, none⟩ = some (.int .i64 7) := cell_of hbx1.out rfl; have x1 : W1.cell? ⟨bx, 1, none⟩ = some (.int .i64 a) := cell_of hbx1.out rfl; have x2 : W1.cell? ⟨bx, 2, none⟩ = some (.int .i64 b) := cell_of hbx1.out rfl; have x3 : W1.cell? ⟨bx, 3, none⟩ = some (.int .i64 c) := cell_of hbx1.out rfl; have x10 : W1.cell? ⟨M, 10, none⟩ = some (.bool false) := (by rw [← hcyH.out]; exact hS1.out.mode.2.2.1); clear hB1 hop y0 y1 y2 y3)
        go_quiet (fail)
        go_wp2
        go_ret
        exact ⟨by rw [hc.out]; rfl, below_on2 hBB.out (drewN_lt _ _)⟩
      | true =>
        have hc : Hid (cd = 0) := by
          show cd = 0
          rw [hcdH.out]
          unfold codeM
          rw [if_neg (by rw [hok]; simp), if_neg (by show ¬ (7 : Int) = 2; omega), if_neg (by show ¬ (7 : Int) = 3; omega), if_neg (by rintro ⟨_, q⟩; rw [hcy] at q; exact absurd q (by simp))]
        have hcyH : Hid (s.cyc = true) := hcy
        clear hok hcy
        go_wp2_with (go_at_call 49; refine (show Calls _ _ _ _ _ from hop.out).mono ?_; rintro e W1 ⟨rfl, hB1⟩; have hS1 : Hid _ := hS0.out.below hB1; have hBB : Hid _ := below_on2 hB0.out hB1; have hbx1 : Hid _ := (hB1.block bx (lt_of hbx0.out)).trans hbx0.out; have x0 : W1.cell? ⟨bx, 0, none⟩ = some (.int .i64 7) := cell_of hbx1.out rfl; have x1 : W1.cell? ⟨bx, 1, none⟩ = some (.int .i64 a) := cell_of hbx1.out rfl; have x2 : W1.cell? ⟨bx, 2, none⟩ = some (.int .i64 b) := cell_of hbx1.out rfl; have x3 : W1.cell? ⟨bx, 3, none⟩ = some (.int .i64 c) := cell_of hbx1.out rfl; have x10 : W1.cell? ⟨M, 10, none⟩ = some (.bool true) := (by rw [← hcyH.out]; exact hS1.out.mode.2.2.1); clear hB1 hop y0 y1 y2 y3)
        go_quiet (fail)
        go_wp2
        go_ret
        exact ⟨by rw [hc.out]; rfl, below_on2 hBB.out (drewN_lt _ _)⟩
    case inr.inr.inr.inr.inl =>
      cases hcy : s.cyc with
      | true =>
        have hc : Hid (cd = 4) := by
          show cd = 4
          rw [hcdH.out]
          unfold codeM
          rw [if_neg (by rw [hok]; simp), if_neg (by show ¬ (6 : Int) = 2; omega), if_neg (by show ¬ (6 : Int) = 3; omega), if_pos ⟨by show (6 : Int) ≤ 6; omega, by rw [hcy]; rfl⟩]
        have hcyH : Hid (s.cyc = true) := hcy
        clear hok hcy
        go_wp2_with (go_at_call 49; refine (show Calls _ _ _ _ _ from hop.out).mono ?_; rintro e W1 ⟨rfl, hB1⟩; have hS1 : Hid _ := hS0.out.below hB1; have hBB : Hid _ := below_on2 hB0.out hB1; have hbx1 : Hid _ := (hB1.block bx (lt_of hbx0.out)).trans hbx0.out; have x0 : W1.cell? ⟨bx, 0, none⟩ = some (.int .i64 6) := cell_of hbx1.out rfl; have x1 : W1.cell? ⟨bx, 1, none⟩ = some (.int .i64 a) := cell_of hbx1.out rfl; have x2 : W1.cell? ⟨bx, 2, none⟩ = some (.int .i64 b) := cell_of hbx1.out rfl; have x3 : W1.cell? ⟨bx, 3, none⟩ = some (.int .i64 c) := cell_of hbx1.out rfl; have x10 : W1.cell? ⟨M, 10, none⟩ = some (.bool true) := (by rw [← hcyH.out]; exact hS1.out.mode.2.2.1); clear hB1 hop y0 y1 y2 y3)
        go_quiet (fail)
        go_wp2
        go_ret
        exact ⟨by rw [hc.out]; rfl, below_on2 hBB.out (drewN_lt _ _)⟩
      | false =>
        have hc : Hid (cd = 0) := by
          show cd = 0
          rw [hcdH.out]
          unfold codeM
          rw [if_neg (by rw [hok]; simp), if_neg (by show ¬ (6 : Int) = 2; omega), if_neg (by show ¬ (6 : Int) = 3; omega), if_neg (by rintro ⟨_, q⟩; rw [hcy] at q; exact absurd q (by simp))]
        have hcyH : Hid (s.cyc = false) := hcy
        clear hok hcy
        go_wp2_with (go_at_call 49; refine (show Calls _ _ _ _ _ from hop.out).mono ?_; rintro e W1 ⟨rfl, hB1⟩; have hS1 : Hid _ := hS0.out.below hB1; have hBB : Hid _ := below_on2 hB0.out hB1; have hbx1 : Hid _ := (hB1.block bx (lt_of hbx0.out)).trans hbx0.out; have x0 : W1.cell? ⟨bx, 0, none⟩ = some (.int .i64 6) := cell_of hbx1.out rfl; have x1 : W1.cell? ⟨bx, 1, none⟩ = some (.int .i64 a) := cell_of hbx1.out rfl; have x2 : W1.cell? ⟨bx, 2, none⟩ = some (.int .i64 b) := cell_of hbx1.out rfl; have x3 : W1.cell? ⟨bx, 3, none⟩ = some (.int .i64 c) := cell_of hbx1.out rfl; have x10 : W1.cell? ⟨M, 10, none⟩ = some (.bool false) := (by rw [← hcyH.out]; exact hS1.out.mode.2.2.1); clear hB1 hop y0 y1 y2 y3)
        go_quiet (fail)
        go_wp2
        go_ret
        exact ⟨by rw [hc.out]; rfl, below_on2 hBB.out (drewN_lt _ _)⟩
    case inr.inr.inr.inr.inr =>
      cases hcy : s.cyc with
      | false =>
        have hc : Hid (cd = 4) := by
          show cd = 4
          rw [hcdH.out]
          unfold codeM
          rw [if_neg (by rw [hok]; simp), if_neg (by show ¬ (8 : Int) = 2; omega), if_neg (by show ¬ (8 : Int) = 3; omega), if_pos ⟨by show (6 : Int) ≤ 8; omega, by rw [hcy]; rfl⟩]
        have hcyH : Hid (s.cyc = false) := hcy
        clear hok hcy
        go_wp2_with (go_at_call 49; refine (show Calls _ _ _ _ _ from hop.out).mono ?_; rintro e W1 ⟨rfl, hB1⟩; have hS1 : Hid _ := hS0.out.below hB1; have hBB : Hid _ := below_on2 hB0.out hB1; have hbx1 : Hid _ := (hB1.block bx (lt_of hbx0.out)).trans hbx0.out; have x0 : W1.cell? ⟨bx, 0, none⟩ = some (.int .i64 8) := cell_of hbx1.out rfl; have x1 : W1.cell? ⟨bx, 1, none⟩ = some (.int .i64 a) := cell_of hbx1.out rfl; have x2 : W1.cell? ⟨bx, 2, none⟩ = some (.int .i64 b) := cell_of hbx1.out rfl; have x3 : W1.cell? ⟨bx, 3, none⟩ = some (.int .i64 c) := cell_of hbx1.out rfl; have x10 : W1.cell? ⟨M, 10, none⟩ = some (.bool false) := (by rw [← hcyH.out]; exact hS1.out.mode.2.2.1); clear hB1 hop y0 y1 y2 y3)
        go_quiet (fail)
        go_wp2
        go_ret
        exact ⟨by rw [hc.out]; rfl, below_on2 hBB.out (drewN_lt _ _)⟩
      | true =>
        have hc : Hid (cd = 0) := by
          show cd = 0
          rw [hcdH.out]
          unfold codeM
          rw [if_neg (by rw [hok]; simp), if_neg (by show ¬ (8 : Int) = 2; omega), if_neg (by show ¬ (8 : Int) = 3; omega), if_neg (by rintro ⟨_, q⟩; rw [hcy] at q; exact absurd q (by simp))]
        have hcyH : Hid (s.cyc = true) := hcy
        clear hok hcy
        go_wp2_with (go_at_call 49; refine (show Calls _ _ _ _ _ from hop.out).mono ?_; rintro e W1 ⟨rfl, hB1⟩; have hS1 : Hid _ := hS0.out.below hB1; have hBB : Hid _ := below_on2 hB0.out hB1; have hbx1 : Hid _ := (hB1.block bx (lt_of hbx0.out)).trans hbx0.out; have x0 : W1.cell? ⟨bx, 0, none⟩ = some (.int .i64 8) := cell_of hbx1.out rfl; have x1 : W1.cell? ⟨bx, 1, none⟩ = some (.int .i64 a) := cell_of hbx1.out rfl; have x2 : W1.cell? ⟨bx, 2, none⟩ = some (.int .i64 b) := cell_of hbx1.out rfl; have x3 : W1.cell? ⟨bx, 3, none⟩ = some (.int .i64 c) := cell_of hbx1.out rfl; have x10 : W1.cell? ⟨M, 10, none⟩ = some (.bool true) := (by rw [← hcyH.out]; exact hS1.out.mode.2.2.1); clear hB1 hop y0 y1 y2 y3)
        go_quiet (fail)
        go_wp2
        go_ret
        exact ⟨by rw [hc.out]; rfl, below_on2 hBB.out (drewN_lt _ _)⟩
end Go.Proofs.Ytchcdlelaklnnaa
