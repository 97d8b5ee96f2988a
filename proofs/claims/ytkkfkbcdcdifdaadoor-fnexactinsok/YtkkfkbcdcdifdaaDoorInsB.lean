/- impl.noneBeside: nothing stands in a field that the op does not name. -/
import Derived.Test.YtkkfkbcdcdifdaaDoorInsA
namespace Go.Proofs.YtkkfkbcdcdifdaaDoor
set_option linter.unusedVariables false
open Go.ChangeShapes Go.WideShapes Go.ChangeAt Go.RowKit

def nn (p part : Int) (em : Bool) : Bool := em || (bits .and .i64 p part != 0)
theorem none_calls (part : Int) (em : Bool) (p : Int) (b : Nat) (w : World) (hc : w.cell? ⟨b, 0, none⟩ = some (.int .i64 p)) :
    Calls Tryd.prog 63 #[.int .i64 part, .bool em, .pointer (some ⟨b, 0, none⟩)] w fun e w' => e = .returned (.bool (nn p part em)) ∧ w' = w := by
  cases em
  all_goals (
    go_enter Tryd.func63, Tryd.ntmps63
    go_wp2
    all_goals (go_ret; refine ⟨?_, rfl⟩; first | rfl | (simp [nn]; done)))

/-- The nine cells of an instruction. -/
abbrev insV (o k a b : Int) (T C N Y : ByteArray) (tab : Value) : Value := .agg #[.int .i64 o, .int .i64 k, .int .i64 a, .int .i64 b, .string T, .string C, .string N, .string Y, tab]
def noneB (p k a b : Int) (T C N Y : ByteArray) (n : Int) : Bool :=
  nn p 1 (k == 0) && nn p 2 (a == 0) && nn p 4 (b == 0) && nn p 8 (T.toList == []) && nn p 16 (C.toList == []) && nn p 32 (N.toList == []) && nn p 64 (Y.toList == []) && nn p 128 (n == 0)

set_option maxRecDepth 1000000 in
set_option maxHeartbeats 4000000 in
theorem noneBeside_calls (o k a b p : Int) (T C N Y : ByteArray) (ta : Option Addr) (n c : Nat) (w : World) :
    Calls Tryd.prog 29 #[insV o k a b T C N Y (.slice ta n c), .int .i64 p] w fun e w' => e = .returned (.bool (noneB p k a b T C N Y n)) ∧ Below w.heap.size w w' := by
  have hmf : ∀ (fn : Fn) (first cap : Array Value) (w : World), (Instr.makeFunc fn first cap).run Tryd.prog w = .ok (.func fn first cap) w := fun _ _ _ _ => rfl
  go_enter Tryd.func29, Tryd.ntmps29
  go_wp2_with (go_at_call 63; refine (none_calls _ _ p (w.heap.size + 1) _ (by simp)).mono ?_; rintro e w' ⟨rfl, he⟩; subst he)
  all_goals go_ret
  all_goals (refine ⟨?_, ((Below.refl _ _).alloc (Nat.le_refl _) _).alloc (by simp) _⟩)
  all_goals (go_light; simp_all [noneB])
end Go.Proofs.YtkkfkbcdcdifdaaDoor
