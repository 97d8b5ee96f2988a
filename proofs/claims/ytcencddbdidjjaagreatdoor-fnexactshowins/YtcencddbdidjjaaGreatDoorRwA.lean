/- impl.insRows: the rows of the words of instructions, as they lie in memory. -/
import Derived.Test.YtcencddbdidjjaaGreatDoorSplit
import Derived.OwnWalk
import Derived.LoopTactic
import Derived.Below
import Derived.Great.BuildSlice
namespace Go.Proofs.YtcencddbdidjjaaGreatDoor
set_option linter.unusedVariables false
open Go.ChangeShapes Go.WideShapes Go.ChangeAt Go.RowKit

/-- A row: its word, its Op, its B, its operands. -/
structure Row where
  word : List UInt8
  op : Int
  b : Int
  ops : List UInt8
def rowsT : List Row := [⟨[99, 111, 110, 115, 116], 1, 0, [75, 70]⟩, ⟨[116, 101, 120, 116], 2, 0, [81]⟩, ⟨[110, 117, 108, 108], 3, 0, []⟩, ⟨[108, 111, 97, 100], 4, 0, [75, 80]⟩, ⟨[115, 116, 111, 114, 101], 5, 0, [75, 80]⟩, ⟨[105, 110, 99], 6, 0, [80, 78]⟩, ⟨[112, 111, 112], 7, 0, []⟩, ⟨[100, 117, 112], 8, 0, []⟩, ⟨[115, 119, 97, 112], 9, 0, []⟩, ⟨[117, 110, 100, 101, 114], 10, 0, []⟩, ⟨[97, 100, 100], 11, 0, [75]⟩, ⟨[115, 117, 98], 12, 0, [75]⟩, ⟨[109, 117, 108], 13, 0, [75]⟩, ⟨[100, 105, 118], 14, 0, [75]⟩, ⟨[114, 101, 109], 15, 0, [75]⟩, ⟨[110, 101, 103], 16, 0, [75]⟩, ⟨[115, 104, 108], 17, 0, [75]⟩, ⟨[115, 104, 114], 18, 0, [75]⟩, ⟨[117, 115, 104, 114], 19, 0, [75]⟩, ⟨[97, 110, 100], 20, 0, [75]⟩, ⟨[111, 114], 21, 0, [75]⟩, ⟨[120, 111, 114], 22, 0, [75]⟩, ⟨[99, 109, 112], 23, 0, [75, 79]⟩, ⟨[99, 111, 110, 118], 24, 0, [75, 90]⟩, ⟨[103, 111, 116, 111], 25, 0, [84]⟩, ⟨[105, 102], 26, 0, [88, 84]⟩, ⟨[105, 102, 105, 110, 116], 27, 0, [88, 84]⟩, ⟨[105, 102, 110, 117, 108, 108], 28, 0, [88, 84]⟩, ⟨[105, 102, 115, 97, 109, 101], 29, 0, [88, 84]⟩, ⟨[115, 119, 105, 116, 99, 104], 30, 0, [78, 84, 76]⟩, ⟨[103, 101, 116], 31, 0, [67, 77, 89]⟩, ⟨[103, 101, 116, 115, 116, 97, 116, 105, 99], 31, 1, [67, 77, 89]⟩, ⟨[112, 117, 116], 32, 0, [67, 77, 89]⟩, ⟨[112, 117, 116, 115, 116, 97, 116, 105, 99], 32, 1, [67, 77, 89]⟩, ⟨[99, 97, 108, 108], 33, 0, [87, 67, 77, 89]⟩, ⟨[110, 101, 119], 34, 0, [67]⟩, ⟨[110, 101, 119, 97, 114, 114, 97, 121], 35, 0, [89]⟩, ⟨[108, 101, 110, 103, 116, 104], 36, 0, []⟩, ⟨[97, 108, 111, 97, 100], 37, 0, [75]⟩, ⟨[97, 115, 116, 111, 114, 101], 38, 0, [75]⟩, ⟨[99, 97, 115, 116], 39, 0, [89]⟩, ⟨[105, 115], 40, 0, [89]⟩, ⟨[116, 104, 114, 111, 119], 41, 0, []⟩, ⟨[101, 110, 116, 101, 114], 42, 0, []⟩, ⟨[101, 120, 105, 116], 43, 0, []⟩, ⟨[114, 101, 116, 117, 114, 110], 44, 0, [82]⟩]
def rowCells (r : Row) : List Value := [.string (mkS r.word), .int .i64 r.op, .int .i64 r.b, .string (mkS r.ops)]
def rowsCells : Array Value := (rowsT.flatMap rowCells).toArray
theorem row_info : ∃ ie z, Tryz.prog.info? 56 = some ie ∧ ie.zero = some z ∧ ie.size = 4 ∧ z.cells = #[.string ⟨#[]⟩, .int .i64 0, .int .i64 0, .string ⟨#[]⟩] := by
  obtain ⟨i0, hi⟩ : ∃ i, Tryz.prog.info? 56 = some i := Option.isSome_iff_exists.1 (by kernel_rfl)
  have hz0 : (Tryz.prog.info? 56).bind (·.zero) = some (.agg #[.string ⟨#[]⟩, .int .i64 0, .int .i64 0, .string ⟨#[]⟩]) := by kernel_rfl
  have hz1 : (Tryz.prog.info? 56).map (·.size) = some 4 := by kernel_rfl
  rw [hi] at hz0 hz1
  exact ⟨i0, _, hi, hz0, Option.some.inj hz1, rfl⟩
set_option maxRecDepth 1000000 in
set_option maxHeartbeats 4000000 in
theorem rows_calls (w : World) : Calls Tryz.prog 68 #[] w fun e w' => e = .returned (.slice (some ⟨w.heap.size, 0, none⟩) 46 46) ∧ w' = w.alloc (.cells rowsCells 56) := by
  obtain ⟨ie, z, hie, hz, hsz, hzc⟩ := row_info
  go_enter Tryz.func68, Tryz.ntmps68
  go_wp2
  refine wp_buildSlice 83 56 46 _ rfl rowsCells ie z (by kernel_rfl) hie hz (by rw [hsz]; decide) (by rw [hsz]; decide) (by rw [hsz, hzc]; kernel_rfl) ?_
  go_wp2
  go_ret
  exact ⟨rfl, rfl⟩
end Go.Proofs.YtcencddbdidjjaaGreatDoor
