/- The law on Boot, walked, out of the contract on spec.Boot. -/
import Derived.Test.YtnoffenkmcmpfaaDoorBtG
import Derived.Test.YtnoffenkmcmpfaaDoorBtL
namespace Go.Proofs.YtnoffenkmcmpfaaDoor
set_option linter.unusedVariables false
open Go.ChangeShapes Go.WideShapes Go.ChangeAt Go.RowKit

/-- What a call of Boot says, on either side. -/
def BootQ (w : World) (e : Ending) (w' : World) : Prop := (∃ v F, e = .returned v ∧ ListF ClassF 7 42 w' v bootL F ∧ F.Nodup ∧ ∀ b ∈ F, w.heap.size ≤ b) ∧ Below w.heap.size w w'
theorem boot_len : bootL.length ≤ 1048576 := by decide +kernel
theorem boot_small : ∀ y ∈ bootL, y.fields.length ≤ 1048576 ∧ y.meths.length ≤ 1048576 ∧ ∀ m ∈ y.meths, m.code.length ≤ 1048576 := by decide +kernel
theorem boot_tot : 1 + totL cntC bootL ≤ 4194000 := by decide +kernel
theorem boot_eq : ∀ x ∈ bootL, ElemEqF 20 ClassF x := fun x hx => eqClass_calls x (boot_small x hx).1 (boot_small x hx).2.1 (boot_small x hx).2.2

set_option maxRecDepth 1000000 in
set_option maxHeartbeats 8000000 in
theorem law_of (hspec : ∀ w, BootEnv w → Calls Tryd.prog 4 #[] w (BootQ w)) (w : World) (he : BootEnv w) : Calls Tryd.prog 3 #[] w fun e w' => e = .returned (.bool true) ∧ Below w.heap.size w w' := by
  have heH : Hid (BootEnv w) := he
  have hspH : Hid (∀ w, BootEnv w → Calls Tryd.prog 4 #[] w (BootQ w)) := hspec
  clear he hspec
  obtain ⟨T, hT⟩ : ∃ T : Nat, 1 + totL cntC bootL = T := ⟨_, rfl⟩
  have hTH : Hid (1 + totL cntC bootL = T) := hT
  clear hT
  have hneg : ¬ ((T : Int) < 0) := by omega
  have heq : ((T : Int) != (T : Int)) = false := by simp
  go_enter Tryd.func3, Tryd.ntmps3
  go_wp2_with fail
  refine (hspH.out w heH.out).mono ?_
  rintro e w1 ⟨⟨v0, F0, rfl, l0, n0, g0⟩, b1⟩
  obtain ⟨a0, c0, rfl⟩ := l0.form
  have L0 : Hid (ListF ClassF 7 42 w1 (.slice a0 bootL.length c0) bootL F0 ∧ Below w.heap.size w w1 ∧ BootEnv w1) := ⟨l0, b1, heH.out.kept b1⟩
  clear l0 n0 g0 b1
  go_wp2_with fail
  refine (implBoot_calls w1 L0.out.2.2).mono ?_
  rintro e w2 ⟨⟨v1, F1, rfl, l1, n1, g1⟩, b2⟩
  obtain ⟨a1, c1, rfl⟩ := l1.form
  have L1 : Hid (ListF ClassF 7 42 w2 (.slice a1 bootL.length c1) bootL F1 ∧ F1.Nodup ∧ (∀ b ∈ F1, w1.heap.size ≤ b) ∧ Below w1.heap.size w1 w2) := ⟨l1, n1, g1, b2⟩
  clear l1 n1 g1 b2
  go_wp2_with fail
  refine (eqClassS_calls _ _ bootL w2 F1 F0 L1.out.1 (L0.out.1.below ClassF.good L1.out.2.2.2) boot_len boot_eq).mono ?_
  rintro e w3 ⟨rfl, b3⟩
  have L2 : Hid (ListF ClassF 7 42 w3 (.slice a1 bootL.length c1) bootL F1 ∧ Below w1.heap.size w1 w3) := ⟨L1.out.1.below ClassF.good b3, below_on L1.out.2.2.2 b3⟩
  clear b3
  go_wp2_with fail
  refine (markClassS_calls _ bootL w3 F1 w1.heap.size 1 L2.out.1 L1.out.2.1 L1.out.2.2.1 boot_len boot_small (Nat.le_refl _) boot_tot).mono ?_
  rintro e w4 ⟨rfl, m1, m2, m3⟩
  have L3 : Hid (ListF ClassF 7 42 w4 (.slice a1 bootL.length c1) (markL markC cntC 1 bootL) F1 ∧ Below w1.heap.size w1 w4) := ⟨m2, L2.out.2.trans m1⟩
  clear m1 m2 m3
  rw [hTH.out]
  go_wp2_with fail
  refine (heldClassS_calls _ bootL w4 F1 1 L3.out.1 boot_len boot_small (Nat.le_refl _) boot_tot).mono ?_
  rintro e w5 ⟨rfl, b5⟩
  have L4 : Hid (ListF ClassF 7 42 w5 (.slice a1 bootL.length c1) (markL markC cntC 1 bootL) F1 ∧ Below w1.heap.size w1 w5 ∧ BootEnv w5) := ⟨L3.out.1.below ClassF.good b5, below_on L3.out.2 b5, L0.out.2.2.kept (below_on L3.out.2 b5)⟩
  clear b5
  rw [hTH.out]
  go_wp2_with fail
  refine (implBoot_calls w5 L4.out.2.2).mono ?_
  rintro e w6 ⟨⟨v2, F2, rfl, l2, n2, g2⟩, b6⟩
  obtain ⟨a2, c2, rfl⟩ := l2.form
  have L5 : Hid (ListF ClassF 7 42 w6 (.slice a2 bootL.length c2) bootL F2 ∧ ListF ClassF 7 42 w6 (.slice a1 bootL.length c1) (markL markC cntC 1 bootL) F1 ∧ Below w1.heap.size w1 w6) := ⟨l2, L4.out.1.below ClassF.good b6, below_on L4.out.2.1 b6⟩
  clear l2 n2 g2 b6
  go_wp2_with fail
  refine (eqClassS_calls _ _ bootL w6 F2 F0 L5.out.1 (L0.out.1.below ClassF.good L5.out.2.2) boot_len boot_eq).mono ?_
  rintro e w7 ⟨rfl, b7⟩
  have L6 : Hid (ListF ClassF 7 42 w7 (.slice a1 bootL.length c1) (markL markC cntC 1 bootL) F1 ∧ Below w1.heap.size w1 w7) := ⟨L5.out.2.1.below ClassF.good b7, below_on L5.out.2.2 b7⟩
  clear b7
  go_wp2_with fail
  refine (heldClassS_calls _ bootL w7 F1 1 L6.out.1 boot_len boot_small (Nat.le_refl _) boot_tot).mono ?_
  rintro e w8 ⟨rfl, b8⟩
  have hE : Hid (Below w.heap.size w w8) := below_on (below_on L0.out.2.1 L6.out.2) b8
  clear b8
  rw [hTH.out]
  go_wp2
  go_ret
  exact ⟨rfl, hE.out⟩
end Go.Proofs.YtnoffenkmcmpfaaDoor
