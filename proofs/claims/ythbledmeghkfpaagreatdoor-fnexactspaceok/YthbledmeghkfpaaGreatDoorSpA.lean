/- spec.l2Only: the instruction with just what its op names. -/
import Derived.Test.YthbledmeghkfpaaGreatDoorInsD
namespace Go.Proofs.YthbledmeghkfpaaGreatDoor
set_option linter.unusedVariables false
open Go.ChangeShapes Go.WideShapes Go.ChangeAt Go.RowKit

/-- The nine cells with just what the op names. -/
def onlyV (o k a b : Int) (T C N Y : ByteArray) (v : Value) : Value :=
  if o = 1 ∨ o = 24 ∨ o = 4 ∨ o = 5 then insV o k a 0 ⟨#[]⟩ ⟨#[]⟩ ⟨#[]⟩ ⟨#[]⟩ (.slice none 0 0)
  else if o = 2 then insV o 0 0 0 T ⟨#[]⟩ ⟨#[]⟩ ⟨#[]⟩ (.slice none 0 0)
  else if o = 6 ∨ (26 ≤ o ∧ o ≤ 29) then insV o 0 a b ⟨#[]⟩ ⟨#[]⟩ ⟨#[]⟩ ⟨#[]⟩ (.slice none 0 0)
  else if o = 25 then insV o 0 a 0 ⟨#[]⟩ ⟨#[]⟩ ⟨#[]⟩ ⟨#[]⟩ (.slice none 0 0)
  else if o = 23 ∧ k = 3 then insV o k 0 b ⟨#[]⟩ ⟨#[]⟩ ⟨#[]⟩ ⟨#[]⟩ (.slice none 0 0)
  else if o = 23 then insV o k 0 0 ⟨#[]⟩ ⟨#[]⟩ ⟨#[]⟩ ⟨#[]⟩ (.slice none 0 0)
  else if o = 30 then insV o 0 a b ⟨#[]⟩ ⟨#[]⟩ ⟨#[]⟩ ⟨#[]⟩ v
  else if 31 ≤ o ∧ o ≤ 33 then insV o 0 0 b ⟨#[]⟩ C N Y (.slice none 0 0)
  else if o = 34 then insV o 0 0 0 ⟨#[]⟩ C ⟨#[]⟩ ⟨#[]⟩ (.slice none 0 0)
  else if o = 35 ∨ o = 39 ∨ o = 40 then insV o 0 0 0 ⟨#[]⟩ ⟨#[]⟩ ⟨#[]⟩ Y (.slice none 0 0)
  else if (o = 37 ∨ o = 38 ∨ o = 44) ∨ (11 ≤ o ∧ o ≤ 22) then insV o k 0 0 ⟨#[]⟩ ⟨#[]⟩ ⟨#[]⟩ ⟨#[]⟩ (.slice none 0 0)
  else insV o 0 0 0 ⟨#[]⟩ ⟨#[]⟩ ⟨#[]⟩ ⟨#[]⟩ (.slice none 0 0)

theorem heap_mid (w : World) (o1 o2 o3 : Obj) : (((w.alloc o1).alloc o2).alloc o3).heap[w.heap.size + 1]? = some o2 := by
  have h := heap_alloc2_old (w.alloc o1) o2 o3
  have e : (w.alloc o1).heap.size = w.heap.size + 1 := by simp
  rwa [e] at h
theorem below3 (w : World) (o1 o2 o3 : Obj) : Below w.heap.size w (((w.alloc o1).alloc o2).alloc o3) := (below2 w o1 o2).alloc (by simp; omega) _

set_option maxRecDepth 1000000 in
set_option maxHeartbeats 8000000 in
theorem only_calls (o k a b : Int) (T C N Y : ByteArray) (ta : Option Addr) (n c : Nat) (w : World) :
    Calls Tryz.prog 126 #[insV o k a b T C N Y (.slice ta n c)] w fun e w' => e = .returned (onlyV o k a b T C N Y (.slice ta n c)) ∧ Below w.heap.size w w' := by
  obtain ⟨r, hr⟩ : ∃ r, onlyV o k a b T C N Y (.slice ta n c) = r := ⟨_, rfl⟩
  rw [hr]
  have hrH : Hid (onlyV o k a b T C N Y (.slice ta n c) = r) := hr
  clear hr
  go_enter Tryz.func126, Tryz.ntmps126
  go_wp2
  all_goals (
    apply bodyPost_ret
    · exact results_cell_row rfl _ _ (w.heap.size + 1) 83 _ (0, 0) _ rfl (heap_mid w _ _ _) Tryz.underlying83 rfl (by kernel_rfl)
    · rfl
    refine ⟨?_, below3 _ _ _ _⟩
    go_light
    rw [← hrH.out]
    simp only [beq_iff_eq, beq_eq_false_iff_ne, ne_eq] at *
    first
      | (exfalso; omega)
      | (unfold onlyV
         repeat (first | rw [if_neg (by omega)] | rw [if_pos (by omega)])
         done)
      | (unfold onlyV
         repeat (first | rw [if_neg (by omega)] | rw [if_pos (by omega)])
         rfl))
end Go.Proofs.YthbledmeghkfpaaGreatDoor
