import Derived.Test.YtjjccimeikkogaaGreatDoorLkC
import Derived.Deep.RegionWith
set_option maxRecDepth 1000000
set_option maxHeartbeats 16000000
namespace Go.Proofs.YtjjccimeikkogaaGreatDoor
set_option linter.unusedVariables false
open Go.ChangeShapes Go.WideShapes Go.ChangeAt Go.RowKit Go.Sort Go.Shelf
structure AbvC (w : World) (a : Option Addr) (n c : Nat) (all : List ClassL) : Prop where
 abv : ∀ (s : ByteArray) (W : World), Below w.heap.size w W → Calls Tryz.prog 24 #[.slice a n c, .string s] W fun e w' => ∃ va vc, e = .returned (.slice va (abvL all s.toList).length vc) ∧ StrO W.heap.size w' (.slice va (abvL all s.toList).length vc) ((abvL all s.toList).map (nameK all)) ∧ Below W.heap.size W w'
 row : ∀ (x s : ByteArray) (W : World) (B : Nat) (va : Option Addr) (m vc : Nat), StrO B W (.slice va m vc) ((abvL all x.toList).map (nameK all)) → Calls Tryz.prog 44 #[.slice va m vc, .string s] W fun e w' => e = .returned (.bool (abvB all x.toList s.toList)) ∧ w' = W
theorem abvC_of {w : World} {a : Option Addr} {n c : Nat} {all : List ClassL} {B : Nat} (hB : B ≤ w.heap.size) (ht : AllAt B w (.slice a n c) all) (hn : n ≤ 1000) (hN : Named all) (hif : ∀ x ∈ all, x.ifs.length ≤ 1048576) : AbvC w a n c all := by
 refine ⟨fun s W hW => ?_, fun x s W B' va m vc ho => ?_⟩
 ·refine (above6_calls a n c s all W B (Nat.le_trans hB hW.size) (ht.below' hB hW) hn hN hif).mono ?_
  rintro e w' ⟨⟨v, rfl, ho⟩, hb⟩
  obtain ⟨va, vc, rfl⟩ := own_shape ho
  simp only [List.length_map] at ho ⊢
  exact ⟨va, vc, rfl, ho, hb⟩
 ·obtain ⟨rfl, hc⟩ := ho.cells
  have hl := (abvL_row all x.toList).len
  have hx := ht.len
  refine (l2In_calls va _ vc s _ W rfl (by simp; omega) hc).mono ?_
  rintro e w' ⟨rfl, rfl⟩
  refine ⟨?_, rfl⟩
  rw [← in_abv hN x.toList s.toList]
  congr 3
  funext y
  exact str_beq _ _
end Go.Proofs.YtjjccimeikkogaaGreatDoor
