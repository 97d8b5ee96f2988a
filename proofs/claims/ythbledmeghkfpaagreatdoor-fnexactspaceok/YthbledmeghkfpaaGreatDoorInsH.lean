/- impl.contentsOk: its ways. -/
import Derived.Test.YthbledmeghkfpaaGreatDoorInsE
import Derived.Test.YthbledmeghkfpaaGreatDoorSwitch
import Derived.Deep.CutBlock
namespace Go.Proofs.YthbledmeghkfpaaGreatDoor
set_option linter.unusedVariables false
open Go.ChangeShapes Go.WideShapes Go.ChangeAt Go.RowKit

theorem retOr_ret {Q : Exit → Act → World → Prop} {a : Act} {w : World} (h : Q .ret a w) : RetOr Q .ret a w := h
theorem retTo_ret {Q : Exit → Act → World → Prop} {K : Act → World → Prop} {a : Act} {w : World} (h : Q .ret a w) : RetTo Q K .ret a w := h
theorem retTo_normal {Q : Exit → Act → World → Prop} {K : Act → World → Prop} {a : Act} {w : World} (h : K a w) : RetTo Q K .normal a w := h
theorem then_ret {Q : Exit → Act → World → Prop} {K : Act → World → Prop} {a : Act} {w : World} (h : Q .ret a w) : Exit.then K Q .ret a w := h

def PA (o : Int) : Prop := o = 1 ∨ o = 2 ∨ o = 4 ∨ o = 5 ∨ o = 6
def PB (o : Int) : Prop := o = 11 ∨ o = 12 ∨ o = 13 ∨ o = 14 ∨ o = 16
def PC (o : Int) : Prop := o = 15 ∨ (17 ≤ o ∧ o ≤ 22)
def PD (o : Int) : Prop := o = 23 ∨ o = 24
def PE (o : Int) : Prop := 25 ≤ o ∧ o ≤ 30
def PF (o : Int) : Prop := o = 31 ∨ o = 32 ∨ o = 33
def PG (o : Int) : Prop := o = 34 ∨ o = 35
def PH (o : Int) : Prop := (36 ≤ o) ∨ o = 3 ∨ (7 ≤ o ∧ o ≤ 10) ∨ o ≤ 0
theorem parts_allP (o : Int) : PA o ∨ PB o ∨ PC o ∨ PD o ∨ PE o ∨ PF o ∨ PG o ∨ PH o := by
  unfold PA PB PC PD PE PF PG PH; omega
end Go.Proofs.YthbledmeghkfpaaGreatDoor
