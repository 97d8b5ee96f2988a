/- The specification and the program give the same of two floats, at every op. -/
import Derived.Test.YtjkmoggajpkdeaaAdd
import Derived.Test.YtjkmoggajpkdeaaMul
import Derived.Test.YtjkmoggajpkdeaaDiv
import Derived.Test.YtjkmoggajpkdeaaDivOdd
import Derived.Test.YtjkmoggajpkdeaaNeg
import Derived.Test.YtjkmoggajpkdeaaSop
namespace Go.Proofs.Ytjkmoggajpkdeaa
set_option linter.unusedVariables false
open Go.ChangeShapes Go.WideShapes Go.ChangeAt Go.RowKit

def Kept (w w' : World) : Prop := ∀ may : MemPlace → Prop, w.keptBut w' may
theorem kept_grown {w w' : World} (h : Grown w w') : Kept w w' := fun may => h.frame may
theorem kept_below {w w' : World} (h : Below w.heap.size w w') : Kept w w' := fun may => h.frame may
theorem kept_same {w w' : World} (h : w' = w) : Kept w w' := h ▸ fun _ => World.keptBut_refl _ _

/-- Both give the same, at every world. -/
def Same (op a b : Int) : Prop := ∃ (r : Int) (ok : Bool),
  (∀ w, Calls Try.prog 4 #[.int .i64 op, .int .i64 a, .int .i64 b] w fun e w' => e = .returned (.tuple #[.int .i64 r, .bool ok]) ∧ Kept w w') ∧
  (∀ w, Calls Try.prog 5 #[.int .i64 op, .int .i64 a, .int .i64 b] w fun e w' => e = .returned (.tuple #[.int .i64 r, .bool ok]) ∧ Kept w w')
theorem same_of {op a b r : Int} {ok : Bool}
    (h1 : ∀ w, Calls Try.prog 4 #[.int .i64 op, .int .i64 a, .int .i64 b] w fun e w' => e = .returned (.tuple #[.int .i64 r, .bool ok]) ∧ Below w.heap.size w w')
    (h2 : ∀ w, Calls Try.prog 5 #[.int .i64 op, .int .i64 a, .int .i64 b] w fun e w' => e = .returned (.tuple #[.int .i64 r, .bool ok]) ∧ Grown w w') : Same op a b :=
  ⟨r, ok, fun w => (h1 w).mono fun _ _ ⟨e, h⟩ => ⟨e, kept_below h⟩, fun w => (h2 w).mono fun _ _ ⟨e, h⟩ => ⟨e, kept_grown h⟩⟩

theorem sameOut (op a b : Int) (h : op < 11 ∨ 16 < op ∨ op = 15) : Same op a b := by
  refine ⟨0, false, fun w => (specOut op a b h w).mono fun _ _ ⟨e, h⟩ => ⟨e, kept_same h⟩, fun w => ?_⟩
  suffices hg : Calls Try.prog 5 #[.int .i64 op, .int .i64 a, .int .i64 b] w fun e w' => e = .returned (.tuple #[.int .i64 0, .bool false]) ∧ Grown w w' from hg.mono fun _ _ ⟨e, h⟩ => ⟨e, kept_grown h⟩
  by_cases ho : op < 11 ∨ 22 < op
  · exact fopOut op a b ho w
  · rcases (show op = 15 ∨ op = 17 ∨ op = 18 ∨ op = 19 ∨ op = 20 ∨ op = 21 ∨ op = 22 by omega) with rfl | rfl | rfl | rfl | rfl | rfl | rfl
    · exact fopNil15 a b w
    · exact fopNil17 a b w
    · exact fopNil18 a b w
    · exact fopNil19 a b w
    · exact fopNil20 a b w
    · exact fopNil21 a b w
    · exact fopNil22 a b w

theorem same16 (a b : Int) (h1 : -9223372036854775808 ≤ a) (h2 : a < 9223372036854775808) : Same 16 a b := by
  have hw := word_of a h1 h2
  have hneg : (IntKind.u64.wrap a).toNat ^^^ 2 ^ 63 = Ieee.double.word (!decide (a < 0)) (rung a) := by rw [hw]; exact neg_word _ _ (rung_lt a)
  by_cases hc : openC a = 2
  · have hn : isNo a := (class_no a).1 hc
    refine same_of (specNanA16 a b hc) (fop16Nan a b _ hneg ?_)
    show (Ieee.double.read _).order (Ieee.double.read _) = none
    rw [read_nan _ _ hn (rung_lt a)]
    rfl
  · have hn : ¬ isNo a := fun h => hc ((class_no a).2 h)
    have hle : rung a ≤ 9218868437227405312 := Nat.le_of_not_lt hn
    have := fop16Num a b _ hneg (order_word _ _ hle)
    rw [← hneg] at this
    rw [← neg_tie] at this
    exact same_of (spec16 a b (by simp [hc])) this

theorem inf_word (s : Bool) : wrap64 ((Ieee.double.word s 9218868437227405312 : Nat) : Int) = signedOf s 9218868437227405312 := (signed_word s 9218868437227405312 (by decide)).symm
theorem rnd_word (s : Bool) (M : Nat) (e : Int) : wrap64 ((Ieee.double.word s (rndOf M e false) : Nat) : Int) = signedOf s ((rndOf M e false : Nat) : Int) := (signed_word s _ (rnd_lt M e false)).symm
theorem addFin_eq (s : Bool) (X : Nat) (t : Bool) (Y : Nat) (b : Int) : addFin s X t Y b = signedOf (if s = t then s else if X < Y then t else s && decide (0 < X - Y)) ((rndOf (if s = t then X + Y else if X < Y then Y - X else X - Y) b false : Nat) : Int) := by
  unfold addFin
  by_cases h : s = t
  · simp [h]
  · by_cases h' : X < Y
    · simp [h, h']
    · simp [h, h']
theorem M_nat (a : Int) : ((openM a).toNat : Int) = openM a := Int.toNat_of_nonneg (M_bounds a).1
theorem M_lt (a : Int) : (openM a).toNat < 9007199254740992 := by have := M_bounds a; omega
theorem not_two {a : Int} (h : openC a = 0 ∨ openC a = 1) : (openC a == 2) = false := by rcases h with h | h <;> simp [h]
end Go.Proofs.Ytjkmoggajpkdeaa
