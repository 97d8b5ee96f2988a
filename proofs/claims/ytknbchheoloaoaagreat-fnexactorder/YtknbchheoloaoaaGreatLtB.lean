/- The specification's answer on one thread of a litmus test. -/
import Derived.Test.YtknbchheoloaoaaGreatLtA
import Derived.BigQuiet
namespace Go.Proofs.YtknbchheoloaoaaGreat
set_option linter.unusedVariables false
open Go.ChangeShapes Go.WideShapes Go.ChangeAt Go.RowKit

def btw (a lo hi : Int) : Bool := decide (lo ≤ a) && decide (a ≤ hi)
def heldAt (h : Bool × Bool) (v : Int) : Bool := if v = 0 then h.1 else h.2
def heldSet (h : Bool × Bool) (v : Int) (b : Bool) : Bool × Bool := if v = 0 then (b, h.2) else (h.1, b)
def actStep (vars locks : Int) (h : Bool × Bool) (a : ActL) : Option (Bool × Bool) :=
 if a.kind = 1 then (if btw a.var 0 (vars - 1) && a.n == 0 then some h else none)
 else if a.kind = 2 ∨ a.kind = 3 then (if btw a.var 0 (vars - 1) && btw a.n (-100) 100 then some h else none)
 else if a.kind = 4 ∨ a.kind = 5 then (if btw a.var 0 (locks - 1) && a.n == 0 && (heldAt h a.var != (a.kind == 4)) then some (heldSet h a.var (a.kind == 4)) else none)
 else none
def tailB (vars locks : Int) : Bool × Bool → List ActL → Bool
 | h, [] => !h.1 && !h.2
 | h, a :: l => match actStep vars locks h a with
  | none => false
  | some h' => tailB vars locks h' l
def threadB (vars locks : Int) (acts : List ActL) : Bool := decide (acts.length ≤ 4) && tailB vars locks (false, false) acts
theorem tailB_none {vars locks : Int} {h : Bool × Bool} {acts : List ActL} {i : Nat} (hi : i < acts.length) (hs : actStep vars locks h acts[i] = none) : tailB vars locks h (acts.drop i) = false := by
 rw [List.drop_eq_getElem_cons hi, tailB, hs]
theorem tailB_some {vars locks : Int} {h h' : Bool × Bool} {acts : List ActL} {i : Nat} (hi : i < acts.length) (hs : actStep vars locks h acts[i] = some h') : tailB vars locks h (acts.drop i) = tailB vars locks h' (acts.drop (i + 1)) := by
 rw [List.drop_eq_getElem_cons hi, tailB, hs]

set_option maxRecDepth 1000000 in
theorem between_calls (a lo hi : Int) (w : World) : Calls Tryz.prog 40 #[.int .i64 a, .int .i64 lo, .int .i64 hi] w fun e w' => e = .returned (.bool (btw a lo hi)) ∧ w' = w := by
 by_cases h1 : lo ≤ a
 ·by_cases h2 : a ≤ hi
  ·have hb : btw a lo hi = true := by simp [btw, h1, h2]
   go_enter Tryz.func40, Tryz.ntmps40
   go_wp2
   go_ret
   exact ⟨by first | rfl | (rw [hb]; rfl), rfl⟩
  ·have hb : btw a lo hi = false := by simp [btw, h2]
   go_enter Tryz.func40, Tryz.ntmps40
   go_wp2
   go_ret
   exact ⟨by first | rfl | (rw [hb]; rfl), rfl⟩
 ·have hb : btw a lo hi = false := by simp [btw, h1]
  go_enter Tryz.func40, Tryz.ntmps40
  go_wp2
  go_ret
  exact ⟨by first | rfl | (rw [hb]; rfl), rfl⟩

structure HeldW (w wr : World) (vars locks : Int) (p q : Bool) : Prop where
 hb : Below w.heap.size w wr
 sz : w.heap.size + 2 ≤ wr.heap.size
 c0 : wr.cell? ⟨w.heap.size, 0, none⟩ = some (.int .i64 vars)
 c2 : wr.cell? ⟨w.heap.size, 2, none⟩ = some (.int .i64 locks)
 d0 : wr.cell? ⟨w.heap.size + 1, 0, none⟩ = some (.bool p)
 d1 : wr.cell? ⟨w.heap.size + 1, 1, none⟩ = some (.bool q)
 f0 : wr.frozen? ⟨w.heap.size + 1, 0, none⟩ = false
 f1 : wr.frozen? ⟨w.heap.size + 1, 1, none⟩ = false
theorem HeldW.on {w wr w' : World} {vars locks : Int} {p q : Bool} (h : HeldW w wr vars locks p q) (hb : Below wr.heap.size wr w') : HeldW w w' vars locks p q := by
 obtain ⟨h1, h2, h3, h4, h5, h6, h7, h8⟩ := h
 have := hb.size
 have e : ∀ b o, b < wr.heap.size → w'.cell? ⟨b, o, none⟩ = wr.cell? ⟨b, o, none⟩ := fun b o h => hb.cell (p := ⟨b, o, none⟩) h
 have e' : ∀ b o, b < wr.heap.size → w'.frozen? ⟨b, o, none⟩ = wr.frozen? ⟨b, o, none⟩ := fun b o h => hb.frozen (p := ⟨b, o, none⟩) h
 exact ⟨below_on h1 hb, by omega, by rw [e _ _ (by omega)]; exact h3, by rw [e _ _ (by omega)]; exact h4, by rw [e _ _ (by omega)]; exact h5, by rw [e _ _ (by omega)]; exact h6, by rw [e' _ _ (by omega)]; exact h7, by rw [e' _ _ (by omega)]; exact h8⟩
theorem HeldW.set0 {w wr : World} {vars locks : Int} {p q : Bool} (h : HeldW w wr vars locks p q) (b : Bool) : HeldW w (wr.setCell ⟨w.heap.size + 1, 0, none⟩ (.bool b)) vars locks b q := by
 obtain ⟨h1, h2, h3, h4, h5, h6, h7, h8⟩ := h
 have ne : ∀ (b o : Nat), b ≠ w.heap.size + 1 ∨ o ≠ 0 → (⟨w.heap.size + 1, 0, none⟩ : Addr) ≠ ⟨b, o, none⟩ := fun b o hne e => by injection e with e1 e2; omega
 exact ⟨h1.setCell (p := ⟨w.heap.size + 1, 0, none⟩) (by show w.heap.size ≤ w.heap.size + 1; omega) _, by simpa [World.setCell] using h2, by rw [World.cell?_setCell_other _ _ _ _ (ne _ _ (by omega))]; exact h3, by rw [World.cell?_setCell_other _ _ _ _ (ne _ _ (by omega))]; exact h4, World.cell?_setCell_same _ _ _ h5, by rw [World.cell?_setCell_other _ _ _ _ (ne _ _ (by omega))]; exact h6, by simpa using h7, by simpa using h8⟩
theorem HeldW.set1 {w wr : World} {vars locks : Int} {p q : Bool} (h : HeldW w wr vars locks p q) (b : Bool) : HeldW w (wr.setCell ⟨w.heap.size + 1, 1, none⟩ (.bool b)) vars locks p b := by
 obtain ⟨h1, h2, h3, h4, h5, h6, h7, h8⟩ := h
 have ne : ∀ (b o : Nat), b ≠ w.heap.size + 1 ∨ o ≠ 1 → (⟨w.heap.size + 1, 1, none⟩ : Addr) ≠ ⟨b, o, none⟩ := fun b o hne e => by injection e with e1 e2; omega
 exact ⟨h1.setCell (p := ⟨w.heap.size + 1, 1, none⟩) (by show w.heap.size ≤ w.heap.size + 1; omega) _, by simpa [World.setCell] using h2, by rw [World.cell?_setCell_other _ _ _ _ (ne _ _ (by omega))]; exact h3, by rw [World.cell?_setCell_other _ _ _ _ (ne _ _ (by omega))]; exact h4, by rw [World.cell?_setCell_other _ _ _ _ (ne _ _ (by omega))]; exact h5, World.cell?_setCell_same _ _ _ h6, by simpa using h7, by simpa using h8⟩
end Go.Proofs.YtknbchheoloaoaaGreat
