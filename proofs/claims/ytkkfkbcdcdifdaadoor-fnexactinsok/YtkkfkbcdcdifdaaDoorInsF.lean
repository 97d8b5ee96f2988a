/- What an instruction's fields must hold. -/
import Derived.Test.YtkkfkbcdcdifdaaDoorInsE
import Derived.Test.YtkkfkbcdcdifdaaDoorSig4
namespace Go.Proofs.YtkkfkbcdcdifdaaDoor
set_option linter.unusedVariables false
open Go.ChangeShapes Go.WideShapes Go.ChangeAt Go.RowKit

/-- What the fields that an op has must hold. -/
def contB (o k a b : Int) (T C N Y : ByteArray) (zs : List Int) (size locals : Int) : Bool :=
  if o = 1 then constB k a
  else if o = 2 then decide ((T.size : Int) ≤ 200)
  else if o = 4 ∨ o = 5 then betw k 1 4 && wthn a locals
  else if o = 6 then wthn a locals && betw b (-32768) 32767
  else if o = 11 ∨ o = 12 ∨ o = 13 ∨ o = 14 ∨ o = 16 then k == 3 || betw k 1 2
  else if 15 ≤ o ∧ o ≤ 22 then betw k 1 2
  else if o = 23 then (k == 2 && b == 0) || (k == 3 && (b == -1 || b == 1))
  else if o = 24 then convB k a
  else if 25 ≤ o ∧ o ≤ 30 then wthn a size && jumpB o b size zs
  else if o = 31 ∨ o = 32 then nameOk C.data.toList && nameOk N.data.toList && typeL Y.data.toList && betw b 0 1
  else if o = 33 then nameOk C.data.toList && nameOk N.data.toList && sigOk Y.data.toList && betw b 1 4
  else if o = 34 then nameOk C.data.toList
  else if o = 35 then typeL (91 :: Y.data.toList)
  else if o = 37 ∨ o = 38 then betw k 1 4
  else if o = 39 ∨ o = 40 then kindL Y.data.toList == 4
  else if o = 44 then betw k 0 4
  else true

theorem keep1 {W W' : World} {p : Addr} {v : Value} (h : W.cell? p = some v) (hb : Below W.heap.size W W') : W'.cell? p = some v := by
  rw [hb.cell (p := p) (World.block_lt_of_cell? W p h)]; exact h

/-- A way that the op's own part rules out. -/
theorem no_way {P : Int → Prop} {o n : Int} (hS : Hid (P o)) (h : (o == n) = true) (hn : ¬ P n) : False := hn (by rw [← eq_of_beq h]; exact hS.out)
end Go.Proofs.YtkkfkbcdcdifdaaDoor
