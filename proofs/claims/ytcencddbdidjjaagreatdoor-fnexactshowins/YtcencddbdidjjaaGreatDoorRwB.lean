/- impl.rowOf: the row of an instruction. -/
import Derived.Test.YtcencddbdidjjaaGreatDoorRwA
import Derived.Test.YtcencddbdidjjaaGreatDoorInsB
import Derived.Test.YtcencddbdidjjaaGreatDoorLawA
import Derived.Deep.DeepAppendWide
import Derived.Maps.AppendAt
import Derived.Laws.OwnMore
namespace Go.Proofs.YtcencddbdidjjaaGreatDoor
set_option linter.unusedVariables false
open Go.ChangeShapes Go.WideShapes Go.ChangeAt Go.RowKit

def isField (o : Int) : Bool := o == 31 || o == 32
def meant (o b : Int) (r : Row) : Bool := r.op == o && (!isField o || r.b == b)
def noRow : Row := ⟨[], 0, 0, []⟩
def theRow (o b : Int) : List Row → Row
  | [] => noRow
  | r :: t => if meant o b r then r else theRow o b t
theorem theRow_hit {o b : Int} {l : List Row} {j : Nat} (h : j < l.length) (hm : meant o b (l[j]'h) = true) : theRow o b (l.drop j) = l[j]'h := by
  rw [List.drop_eq_getElem_cons h, theRow, if_pos hm]
theorem theRow_miss {o b : Int} {l : List Row} {j : Nat} (h : j < l.length) (hm : meant o b (l[j]'h) = false) : theRow o b (l.drop j) = theRow o b (l.drop (j + 1)) := by
  rw [List.drop_eq_getElem_cons h, theRow, hm]; rfl

theorem flat4 : ∀ (l : List Row) (j : Nat) (h : j < l.length) (i : Nat), i < 4 → (l.flatMap rowCells)[4 * j + i]? = (rowCells (l[j]'h))[i]?
  | [], j, h, i, hi => by simp at h
  | r :: t, 0, h, i, hi => by
    rw [List.flatMap_cons, List.getElem?_append_left (by simp [rowCells]; omega)]
    simp
  | r :: t, j + 1, h, i, hi => by
    have hl : (rowCells r).length = 4 := rfl
    rw [List.flatMap_cons, List.getElem?_append_right (by rw [hl]; omega), hl, show 4 * (j + 1) + i - 4 = 4 * j + i by omega]
    have := flat4 t j (by simpa using h) i hi
    simpa using this
theorem rows_len : rowsT.length = 46 := rfl
/-- The rows lie in block R. -/
def RowsIn (W : World) (R : Nat) : Prop := ∀ (j : Nat) (h : j < rowsT.length), W.cell? ⟨R, j * 4, none⟩ = some (.string (mkS (rowsT[j]'h).word)) ∧ W.cell? ⟨R, j * 4 + 1, none⟩ = some (.int .i64 (rowsT[j]'h).op) ∧ W.cell? ⟨R, j * 4 + 2, none⟩ = some (.int .i64 (rowsT[j]'h).b) ∧ W.cell? ⟨R, j * 4 + 3, none⟩ = some (.string (mkS (rowsT[j]'h).ops))
theorem rows_in (w : World) : RowsIn (w.alloc (.cells rowsCells 56)) w.heap.size := fun j h => by
  have key : ∀ i, i < 4 → (w.alloc (.cells rowsCells 56)).cell? ⟨w.heap.size, j * 4 + i, none⟩ = (rowCells (rowsT[j]'h))[i]? := fun i hi => by
    rw [World.cell?_alloc_new, ← flat4 rowsT j h i hi, Nat.mul_comm j 4]
    simp [rowsCells]
  exact ⟨key 0 (by omega), key 1 (by omega), key 2 (by omega), key 3 (by omega)⟩
theorem RowsIn.kept {W W' : World} {R : Nat} (h : RowsIn W R) (hb : Below W.heap.size W W') : RowsIn W' R := fun j hj => by
  obtain ⟨h0, h1, h2, h3⟩ := h j hj
  have hR : R < W.heap.size := block_lt_of_cell h0
  exact ⟨by rw [hb.cell (p := ⟨R, j * 4, none⟩) hR]; exact h0, by rw [hb.cell (p := ⟨R, j * 4 + 1, none⟩) hR]; exact h1, by rw [hb.cell (p := ⟨R, j * 4 + 2, none⟩) hR]; exact h2, by rw [hb.cell (p := ⟨R, j * 4 + 3, none⟩) hR]; exact h3⟩
theorem rows_calls2 (w : World) : Calls Tryz.prog 68 #[] w fun e w' => e = .returned (.slice (some ⟨w.heap.size, 0, none⟩) 46 46) ∧ RowsIn w' w.heap.size ∧ Below w.heap.size w w' := by
  refine (rows_calls w).mono ?_
  rintro e w' ⟨rfl, rfl⟩
  exact ⟨rfl, rows_in w, (Below.refl _ _).alloc (Nat.le_refl _) _⟩
theorem set4 (W : World) (g : Nat) (t : TypeId) {z0 z1 z2 z3 : Value} (hg : W.heap[g]? = some (.cells #[z0, z1, z2, z3] t (0, 0))) {v0 v1 v2 v3 : Value} :
    ((((W.setCell ⟨g, 0, none⟩ v0).setCell ⟨g, 1, none⟩ v1).setCell ⟨g, 2, none⟩ v2).setCell ⟨g, 3, none⟩ v3) = W.setRow g #[v0, v1, v2, v3] := by
  have e0 : W.setCell ⟨g, 0, none⟩ v0 = W.setRow g #[v0, z1, z2, z3] := setCell_eq_setRow W g 0 _ t (0, 0) v0 hg
  have e1 : (W.setRow g #[v0, z1, z2, z3]).setCell ⟨g, 1, none⟩ v1 = W.setRow g #[v0, v1, z2, z3] := by
    rw [setCell_eq_setRow _ g 1 _ t (0, 0) v1 (setRow_heap W g _ #[v0, z1, z2, z3] t (0, 0) hg), setRow_setRow]; rfl
  have e2 : (W.setRow g #[v0, v1, z2, z3]).setCell ⟨g, 2, none⟩ v2 = W.setRow g #[v0, v1, v2, z3] := by
    rw [setCell_eq_setRow _ g 2 _ t (0, 0) v2 (setRow_heap W g _ #[v0, v1, z2, z3] t (0, 0) hg), setRow_setRow]; rfl
  have e3 : (W.setRow g #[v0, v1, v2, z3]).setCell ⟨g, 3, none⟩ v3 = W.setRow g #[v0, v1, v2, v3] := by
    rw [setCell_eq_setRow _ g 3 _ t (0, 0) v3 (setRow_heap W g _ #[v0, v1, v2, z3] t (0, 0) hg), setRow_setRow]; rfl
  rw [e0, e1, e2, e3]
/-- What rowOf finds in its own memory: the instruction's Op and B, and the place of its answer. -/
structure RowMem (W : World) (B : Nat) (o b : Int) : Prop where
  op : W.cell? ⟨B, 0, none⟩ = some (.int .i64 o)
  b : W.cell? ⟨B, 3, none⟩ = some (.int .i64 b)
  ans : W.heap[B + 1]? = some (.cells #[.string ⟨#[]⟩, .int .i64 0, .int .i64 0, .string ⟨#[]⟩] 56 (0, 0))
theorem RowMem.kept {W W' : World} {B : Nat} {o b : Int} (h : RowMem W B o b) (hb : Below W.heap.size W W') : RowMem W' B o b := by
  have h0 := block_lt_of_cell h.op
  have h1 : B + 1 < W.heap.size := (Array.getElem?_eq_some_iff.1 h.ans).1
  have e0 := hb.block B h0
  exact ⟨by rw [World.cell?_of_block (w := W) e0]; exact h.op, by rw [World.cell?_of_block (w := W) e0]; exact h.b, by rw [hb.block (B + 1) h1]; exact h.ans⟩
theorem rowMem_new (w : World) (o k a b : Int) (T C N Y : ByteArray) (v : Value) (t : TypeId) : RowMem ((w.alloc (.cells #[.int .i64 o, .int .i64 k, .int .i64 a, .int .i64 b, .string T, .string C, .string N, .string Y, v] t)).alloc (.cells #[.string ⟨#[]⟩, .int .i64 0, .int .i64 0, .string ⟨#[]⟩] 56)) w.heap.size o b := by
  refine ⟨?_, ?_, ?_⟩
  · rw [World.cell?_alloc_past _ _ _ (by simp), World.cell?_alloc_new]; rfl
  · rw [World.cell?_alloc_past _ _ _ (by simp), World.cell?_alloc_new]; rfl
  · exact heap_alloc2_new w _ _
attribute [local irreducible] rowsCells rowsT

set_option maxRecDepth 1000000 in
set_option maxHeartbeats 8000000 in
theorem rowOf_none (o k a b : Int) (T C N Y : ByteArray) (ta : Option Addr) (n c : Nat) (w : World) (h31 : (o == 31) = false) (h32 : (o == 32) = false) :
    Calls Tryz.prog 42 #[.agg #[.int .i64 o, .int .i64 k, .int .i64 a, .int .i64 b, .string T, .string C, .string N, .string Y, .slice ta n c]] w fun e w' => e = .returned (.agg (rowCells (theRow o b rowsT)).toArray) ∧ Below w.heap.size w w' := by
  obtain ⟨R, hR⟩ : ∃ R, theRow o b rowsT = R := ⟨_, rfl⟩
  have hlen : rowsT.length = 46 := rows_len
  rw [hR]
  have hRH : Hid (theRow o b rowsT = R) := hR
  clear hR
  go_enter Tryz.func42, Tryz.ntmps42
  go_wp2_with (go_at_call 68; fail)
  have hmem0 := rowMem_new w o k a b T C N Y (.slice ta n c) 27
  have hbel0 : Below w.heap.size w ((w.alloc (.cells #[.int .i64 o, .int .i64 k, .int .i64 a, .int .i64 b, .string T, .string C, .string N, .string Y, .slice ta n c] 27)).alloc (.cells #[.string ⟨#[]⟩, .int .i64 0, .int .i64 0, .string ⟨#[]⟩] 56)) := ((Below.refl _ _).alloc (Nat.le_refl _) _).alloc (by simp) _
  generalize ((w.alloc (.cells #[.int .i64 o, .int .i64 k, .int .i64 a, .int .i64 b, .string T, .string C, .string N, .string Y, .slice ta n c] 27)).alloc (.cells #[.string ⟨#[]⟩, .int .i64 0, .int .i64 0, .string ⟨#[]⟩] 56)) = W1 at *
  refine (rows_calls2 _).mono ?_
  rintro e W2 ⟨rfl, hrows, hb12⟩
  obtain ⟨B, hB⟩ : ∃ B, W1.heap.size = B := ⟨_, rfl⟩
  rw [hB] at hrows ⊢
  have hmem2 := hmem0.kept hb12
  have hwb : Hid (Below w.heap.size w W2) := hbel0.trans (hb12.mono hbel0.size)
  have hmemH : Hid (RowMem W2 w.heap.size o b) := hmem2
  have hrowsH : Hid (RowsIn W2 B) := hrows
  clear hmem0 hmem2 hrows hb12 hbel0 hB
  go_wp2
  go_loopw [16] (fun iv wr => ∃ j : Nat, j ≤ 46 ∧ iv = .int .i64 j ∧ Hid (theRow o b (rowsT.drop j) = R) ∧ Below W2.heap.size W2 wr) (fun iv _ => 46 - (intOf iv).toNat)
  case atStart => exact ⟨0, by omega, rfl, hRH, Below.refl _ _⟩
  case round =>
    obtain ⟨j, hj, rfl, hfind, hbr⟩ := hrel
    have hm := hmemH.out.kept hbr
    obtain ⟨m0, m1, ha⟩ := hm
    have q0 : wr.cell? ⟨w.heap.size + 1, 0, none⟩ = some (.string ⟨#[]⟩) := by simp [World.cell?, ha]
    have q1 : wr.cell? ⟨w.heap.size + 1, 1, none⟩ = some (.int .i64 0) := by simp [World.cell?, ha]
    have q2 : wr.cell? ⟨w.heap.size + 1, 2, none⟩ = some (.int .i64 0) := by simp [World.cell?, ha]
    have q3 : wr.cell? ⟨w.heap.size + 1, 3, none⟩ = some (.string ⟨#[]⟩) := by simp [World.cell?, ha]
    have f0 : wr.frozen? ⟨w.heap.size + 1, 0, none⟩ = false := by simp [World.frozen?, ha]
    have f1 : wr.frozen? ⟨w.heap.size + 1, 1, none⟩ = false := by simp [World.frozen?, ha]
    have f2 : wr.frozen? ⟨w.heap.size + 1, 2, none⟩ = false := by simp [World.frozen?, ha]
    have f3 : wr.frozen? ⟨w.heap.size + 1, 3, none⟩ = false := by simp [World.frozen?, ha]
    have haH : Hid (wr.heap[w.heap.size + 1]? = some (.cells #[.string ⟨#[]⟩, .int .i64 0, .int .i64 0, .string ⟨#[]⟩] 56 (0, 0))) := ha
    have hwr : Hid (Below w.heap.size w wr) := hwb.out.trans (hbr.mono hwb.out.size)
    have hszw : w.heap.size + 1 < wr.heap.size := (Array.getElem?_eq_some_iff.1 ha).1
    have hszw0 : w.heap.size < wr.heap.size := by omega
    clear ha
    by_cases hlt : j < 46
    · have hlt' : (j : Int) < 46 := by omega
      have hlt2 : j < rowsT.length := by omega
      obtain ⟨r0, r1, r2, r3⟩ := hrowsH.out.kept hbr j hlt2
      obtain ⟨r, hr⟩ : ∃ r, rowsT[j]'hlt2 = r := ⟨_, rfl⟩
      rw [hr] at r0 r1 r2 r3
      by_cases hmt : meant o b r = true
      · have hres : Hid (R = r) := by
          show R = r
          rw [← hfind.out, theRow_hit hlt2 (by rw [hr]; exact hmt), hr]
        clear hfind hRH
        have hop : (r.op == o) = true := by
          unfold meant at hmt
          simp only [Bool.and_eq_true] at hmt
          exact hmt.1
        clear hmt
        go_wp2
        rw [set4 _ _ 56 haH.out, hres.out]
        exact bodyPost_ret (v := .agg #[.string (mkS r.word), .int .i64 r.op, .int .i64 r.b, .string (mkS r.ops)]) (results_cell_row rfl _ _ (w.heap.size + 1) 56 _ (0, 0) _ rfl (by rw [heap_alloc_old _ _ (by rw [setRow_size]; omega)]; exact setRow_heap _ _ _ _ 56 (0, 0) haH.out) Tryz.underlying56 rfl (by kernel_rfl)) rfl ⟨rfl, (below_setRow hwr.out (by omega) _).alloc (by rw [setRow_size]; omega) _⟩
      · have hmt' : meant o b r = false := by simpa using hmt
        have hnext : Hid (theRow o b (rowsT.drop (j + 1)) = R) := by
          show _ = _
          rw [← theRow_miss hlt2 (by rw [hr]; exact hmt')]; exact hfind.out
        clear hmt
        have hj62 : (j : Int) + 1 < 2 ^ 62 := by omega
        have hop : (r.op == o) = false := by
          unfold meant isField at hmt'
          rw [h31, h32] at hmt'
          simpa using hmt'
        clear hmt'
        go_wp2
        go_roundw
        case rel => exact ⟨j + 1, by omega, by go_num, hnext, hbr.alloc hbr.size _⟩
        case measure => simp [intOf]; omega
    · have hj46 : j = 46 := by omega
      subst hj46
      have hR0 : R = noRow := by rw [← hfind.out, List.drop_eq_nil_of_le (by rw [hlen]; omega)]; rfl
      have hR0H : Hid (R = noRow) := hR0
      clear hR0 hfind hRH
      go_wp2
      rw [set4 _ _ 56 haH.out, hR0H.out]
      exact bodyPost_ret (v := .agg #[.string ⟨#[]⟩, .int .i64 0, .int .i64 0, .string ⟨#[]⟩]) (results_cell_row rfl _ _ (w.heap.size + 1) 56 _ (0, 0) _ rfl (setRow_heap _ _ _ _ 56 (0, 0) haH.out) Tryz.underlying56 rfl (by kernel_rfl)) rfl ⟨rfl, below_setRow hwr.out (by omega) _⟩

set_option maxRecDepth 1000000 in
set_option maxHeartbeats 8000000 in
theorem rowOf_get (k a b : Int) (T C N Y : ByteArray) (ta : Option Addr) (n c : Nat) (w : World)  :
    Calls Tryz.prog 42 #[.agg #[.int .i64 31, .int .i64 k, .int .i64 a, .int .i64 b, .string T, .string C, .string N, .string Y, .slice ta n c]] w fun e w' => e = .returned (.agg (rowCells (theRow 31 b rowsT)).toArray) ∧ Below w.heap.size w w' := by
  obtain ⟨R, hR⟩ : ∃ R, theRow 31 b rowsT = R := ⟨_, rfl⟩
  have hlen : rowsT.length = 46 := rows_len
  rw [hR]
  have hRH : Hid (theRow 31 b rowsT = R) := hR
  clear hR
  go_enter Tryz.func42, Tryz.ntmps42
  go_wp2_with (go_at_call 68; fail)
  have hmem0 := rowMem_new w 31 k a b T C N Y (.slice ta n c) 27
  have hbel0 : Below w.heap.size w ((w.alloc (.cells #[.int .i64 31, .int .i64 k, .int .i64 a, .int .i64 b, .string T, .string C, .string N, .string Y, .slice ta n c] 27)).alloc (.cells #[.string ⟨#[]⟩, .int .i64 0, .int .i64 0, .string ⟨#[]⟩] 56)) := ((Below.refl _ _).alloc (Nat.le_refl _) _).alloc (by simp) _
  generalize ((w.alloc (.cells #[.int .i64 31, .int .i64 k, .int .i64 a, .int .i64 b, .string T, .string C, .string N, .string Y, .slice ta n c] 27)).alloc (.cells #[.string ⟨#[]⟩, .int .i64 0, .int .i64 0, .string ⟨#[]⟩] 56)) = W1 at *
  refine (rows_calls2 _).mono ?_
  rintro e W2 ⟨rfl, hrows, hb12⟩
  obtain ⟨B, hB⟩ : ∃ B, W1.heap.size = B := ⟨_, rfl⟩
  rw [hB] at hrows ⊢
  have hmem2 := hmem0.kept hb12
  have hwb : Hid (Below w.heap.size w W2) := hbel0.trans (hb12.mono hbel0.size)
  have hmemH : Hid (RowMem W2 w.heap.size 31 b) := hmem2
  have hrowsH : Hid (RowsIn W2 B) := hrows
  clear hmem0 hmem2 hrows hb12 hbel0 hB
  go_wp2
  go_loopw [16] (fun iv wr => ∃ j : Nat, j ≤ 46 ∧ iv = .int .i64 j ∧ Hid (theRow 31 b (rowsT.drop j) = R) ∧ Below W2.heap.size W2 wr) (fun iv _ => 46 - (intOf iv).toNat)
  case atStart => exact ⟨0, by omega, rfl, hRH, Below.refl _ _⟩
  case round =>
    obtain ⟨j, hj, rfl, hfind, hbr⟩ := hrel
    have hm := hmemH.out.kept hbr
    obtain ⟨m0, m1, ha⟩ := hm
    have q0 : wr.cell? ⟨w.heap.size + 1, 0, none⟩ = some (.string ⟨#[]⟩) := by simp [World.cell?, ha]
    have q1 : wr.cell? ⟨w.heap.size + 1, 1, none⟩ = some (.int .i64 0) := by simp [World.cell?, ha]
    have q2 : wr.cell? ⟨w.heap.size + 1, 2, none⟩ = some (.int .i64 0) := by simp [World.cell?, ha]
    have q3 : wr.cell? ⟨w.heap.size + 1, 3, none⟩ = some (.string ⟨#[]⟩) := by simp [World.cell?, ha]
    have f0 : wr.frozen? ⟨w.heap.size + 1, 0, none⟩ = false := by simp [World.frozen?, ha]
    have f1 : wr.frozen? ⟨w.heap.size + 1, 1, none⟩ = false := by simp [World.frozen?, ha]
    have f2 : wr.frozen? ⟨w.heap.size + 1, 2, none⟩ = false := by simp [World.frozen?, ha]
    have f3 : wr.frozen? ⟨w.heap.size + 1, 3, none⟩ = false := by simp [World.frozen?, ha]
    have haH : Hid (wr.heap[w.heap.size + 1]? = some (.cells #[.string ⟨#[]⟩, .int .i64 0, .int .i64 0, .string ⟨#[]⟩] 56 (0, 0))) := ha
    have hwr : Hid (Below w.heap.size w wr) := hwb.out.trans (hbr.mono hwb.out.size)
    have hszw : w.heap.size + 1 < wr.heap.size := (Array.getElem?_eq_some_iff.1 ha).1
    have hszw0 : w.heap.size < wr.heap.size := by omega
    clear ha
    by_cases hlt : j < 46
    · have hlt' : (j : Int) < 46 := by omega
      have hlt2 : j < rowsT.length := by omega
      obtain ⟨r0, r1, r2, r3⟩ := hrowsH.out.kept hbr j hlt2
      obtain ⟨r, hr⟩ : ∃ r, rowsT[j]'hlt2 = r := ⟨_, rfl⟩
      rw [hr] at r0 r1 r2 r3
      by_cases hmt : meant 31 b r = true
      · have hres : Hid (R = r) := by
          show R = r
          rw [← hfind.out, theRow_hit hlt2 (by rw [hr]; exact hmt), hr]
        clear hfind hRH
        have hop : (r.op == 31) = true := by
          unfold meant at hmt
          simp only [Bool.and_eq_true] at hmt
          exact hmt.1
        have hbb : (r.b == b) = true := by
          unfold meant at hmt
          rw [hop] at hmt
          simpa [isField] using hmt
        clear hmt
        go_wp2
        rw [set4 _ _ 56 haH.out, hres.out]
        exact bodyPost_ret (v := .agg #[.string (mkS r.word), .int .i64 r.op, .int .i64 r.b, .string (mkS r.ops)]) (results_cell_row rfl _ _ (w.heap.size + 1) 56 _ (0, 0) _ rfl (by rw [heap_alloc_old _ _ (by rw [setRow_size]; omega)]; exact setRow_heap _ _ _ _ 56 (0, 0) haH.out) Tryz.underlying56 rfl (by kernel_rfl)) rfl ⟨rfl, (below_setRow hwr.out (by omega) _).alloc (by rw [setRow_size]; omega) _⟩
      · have hmt' : meant 31 b r = false := by simpa using hmt
        have hnext : Hid (theRow 31 b (rowsT.drop (j + 1)) = R) := by
          show _ = _
          rw [← theRow_miss hlt2 (by rw [hr]; exact hmt')]; exact hfind.out
        clear hmt
        have hj62 : (j : Int) + 1 < 2 ^ 62 := by omega
        have hno : (r.op == 31) = false ∨ ((r.op == 31) = true ∧ (r.b == b) = false) := by
          cases h : (r.op == 31)
          · exact .inl rfl
          · refine .inr ⟨rfl, ?_⟩
            unfold meant at hmt'
            rw [h] at hmt'
            simpa [isField] using hmt'
        clear hmt'
        rcases hno with hop | ⟨hop, hbb⟩
        · go_wp2
          go_roundw
          case rel => exact ⟨j + 1, by omega, by go_num, hnext, hbr.alloc hbr.size _⟩
          case measure => simp [intOf]; omega
        · go_wp2
          go_roundw
          case rel => exact ⟨j + 1, by omega, by go_num, hnext, hbr.alloc hbr.size _⟩
          case measure => simp [intOf]; omega
    · have hj46 : j = 46 := by omega
      subst hj46
      have hR0 : R = noRow := by rw [← hfind.out, List.drop_eq_nil_of_le (by rw [hlen]; omega)]; rfl
      have hR0H : Hid (R = noRow) := hR0
      clear hR0 hfind hRH
      go_wp2
      rw [set4 _ _ 56 haH.out, hR0H.out]
      exact bodyPost_ret (v := .agg #[.string ⟨#[]⟩, .int .i64 0, .int .i64 0, .string ⟨#[]⟩]) (results_cell_row rfl _ _ (w.heap.size + 1) 56 _ (0, 0) _ rfl (setRow_heap _ _ _ _ 56 (0, 0) haH.out) Tryz.underlying56 rfl (by kernel_rfl)) rfl ⟨rfl, below_setRow hwr.out (by omega) _⟩

set_option maxRecDepth 1000000 in
set_option maxHeartbeats 8000000 in
theorem rowOf_put (k a b : Int) (T C N Y : ByteArray) (ta : Option Addr) (n c : Nat) (w : World)  :
    Calls Tryz.prog 42 #[.agg #[.int .i64 32, .int .i64 k, .int .i64 a, .int .i64 b, .string T, .string C, .string N, .string Y, .slice ta n c]] w fun e w' => e = .returned (.agg (rowCells (theRow 32 b rowsT)).toArray) ∧ Below w.heap.size w w' := by
  obtain ⟨R, hR⟩ : ∃ R, theRow 32 b rowsT = R := ⟨_, rfl⟩
  have hlen : rowsT.length = 46 := rows_len
  rw [hR]
  have hRH : Hid (theRow 32 b rowsT = R) := hR
  clear hR
  go_enter Tryz.func42, Tryz.ntmps42
  go_wp2_with (go_at_call 68; fail)
  have hmem0 := rowMem_new w 32 k a b T C N Y (.slice ta n c) 27
  have hbel0 : Below w.heap.size w ((w.alloc (.cells #[.int .i64 32, .int .i64 k, .int .i64 a, .int .i64 b, .string T, .string C, .string N, .string Y, .slice ta n c] 27)).alloc (.cells #[.string ⟨#[]⟩, .int .i64 0, .int .i64 0, .string ⟨#[]⟩] 56)) := ((Below.refl _ _).alloc (Nat.le_refl _) _).alloc (by simp) _
  generalize ((w.alloc (.cells #[.int .i64 32, .int .i64 k, .int .i64 a, .int .i64 b, .string T, .string C, .string N, .string Y, .slice ta n c] 27)).alloc (.cells #[.string ⟨#[]⟩, .int .i64 0, .int .i64 0, .string ⟨#[]⟩] 56)) = W1 at *
  refine (rows_calls2 _).mono ?_
  rintro e W2 ⟨rfl, hrows, hb12⟩
  obtain ⟨B, hB⟩ : ∃ B, W1.heap.size = B := ⟨_, rfl⟩
  rw [hB] at hrows ⊢
  have hmem2 := hmem0.kept hb12
  have hwb : Hid (Below w.heap.size w W2) := hbel0.trans (hb12.mono hbel0.size)
  have hmemH : Hid (RowMem W2 w.heap.size 32 b) := hmem2
  have hrowsH : Hid (RowsIn W2 B) := hrows
  clear hmem0 hmem2 hrows hb12 hbel0 hB
  go_wp2
  go_loopw [16] (fun iv wr => ∃ j : Nat, j ≤ 46 ∧ iv = .int .i64 j ∧ Hid (theRow 32 b (rowsT.drop j) = R) ∧ Below W2.heap.size W2 wr) (fun iv _ => 46 - (intOf iv).toNat)
  case atStart => exact ⟨0, by omega, rfl, hRH, Below.refl _ _⟩
  case round =>
    obtain ⟨j, hj, rfl, hfind, hbr⟩ := hrel
    have hm := hmemH.out.kept hbr
    obtain ⟨m0, m1, ha⟩ := hm
    have q0 : wr.cell? ⟨w.heap.size + 1, 0, none⟩ = some (.string ⟨#[]⟩) := by simp [World.cell?, ha]
    have q1 : wr.cell? ⟨w.heap.size + 1, 1, none⟩ = some (.int .i64 0) := by simp [World.cell?, ha]
    have q2 : wr.cell? ⟨w.heap.size + 1, 2, none⟩ = some (.int .i64 0) := by simp [World.cell?, ha]
    have q3 : wr.cell? ⟨w.heap.size + 1, 3, none⟩ = some (.string ⟨#[]⟩) := by simp [World.cell?, ha]
    have f0 : wr.frozen? ⟨w.heap.size + 1, 0, none⟩ = false := by simp [World.frozen?, ha]
    have f1 : wr.frozen? ⟨w.heap.size + 1, 1, none⟩ = false := by simp [World.frozen?, ha]
    have f2 : wr.frozen? ⟨w.heap.size + 1, 2, none⟩ = false := by simp [World.frozen?, ha]
    have f3 : wr.frozen? ⟨w.heap.size + 1, 3, none⟩ = false := by simp [World.frozen?, ha]
    have haH : Hid (wr.heap[w.heap.size + 1]? = some (.cells #[.string ⟨#[]⟩, .int .i64 0, .int .i64 0, .string ⟨#[]⟩] 56 (0, 0))) := ha
    have hwr : Hid (Below w.heap.size w wr) := hwb.out.trans (hbr.mono hwb.out.size)
    have hszw : w.heap.size + 1 < wr.heap.size := (Array.getElem?_eq_some_iff.1 ha).1
    have hszw0 : w.heap.size < wr.heap.size := by omega
    clear ha
    by_cases hlt : j < 46
    · have hlt' : (j : Int) < 46 := by omega
      have hlt2 : j < rowsT.length := by omega
      obtain ⟨r0, r1, r2, r3⟩ := hrowsH.out.kept hbr j hlt2
      obtain ⟨r, hr⟩ : ∃ r, rowsT[j]'hlt2 = r := ⟨_, rfl⟩
      rw [hr] at r0 r1 r2 r3
      by_cases hmt : meant 32 b r = true
      · have hres : Hid (R = r) := by
          show R = r
          rw [← hfind.out, theRow_hit hlt2 (by rw [hr]; exact hmt), hr]
        clear hfind hRH
        have hop : (r.op == 32) = true := by
          unfold meant at hmt
          simp only [Bool.and_eq_true] at hmt
          exact hmt.1
        have hbb : (r.b == b) = true := by
          unfold meant at hmt
          rw [hop] at hmt
          simpa [isField] using hmt
        clear hmt
        go_wp2
        rw [set4 _ _ 56 haH.out, hres.out]
        exact bodyPost_ret (v := .agg #[.string (mkS r.word), .int .i64 r.op, .int .i64 r.b, .string (mkS r.ops)]) (results_cell_row rfl _ _ (w.heap.size + 1) 56 _ (0, 0) _ rfl (by rw [heap_alloc_old _ _ (by rw [setRow_size]; omega)]; exact setRow_heap _ _ _ _ 56 (0, 0) haH.out) Tryz.underlying56 rfl (by kernel_rfl)) rfl ⟨rfl, (below_setRow hwr.out (by omega) _).alloc (by rw [setRow_size]; omega) _⟩
      · have hmt' : meant 32 b r = false := by simpa using hmt
        have hnext : Hid (theRow 32 b (rowsT.drop (j + 1)) = R) := by
          show _ = _
          rw [← theRow_miss hlt2 (by rw [hr]; exact hmt')]; exact hfind.out
        clear hmt
        have hj62 : (j : Int) + 1 < 2 ^ 62 := by omega
        have hno : (r.op == 32) = false ∨ ((r.op == 32) = true ∧ (r.b == b) = false) := by
          cases h : (r.op == 32)
          · exact .inl rfl
          · refine .inr ⟨rfl, ?_⟩
            unfold meant at hmt'
            rw [h] at hmt'
            simpa [isField] using hmt'
        clear hmt'
        rcases hno with hop | ⟨hop, hbb⟩
        · go_wp2
          go_roundw
          case rel => exact ⟨j + 1, by omega, by go_num, hnext, hbr.alloc hbr.size _⟩
          case measure => simp [intOf]; omega
        · go_wp2
          go_roundw
          case rel => exact ⟨j + 1, by omega, by go_num, hnext, hbr.alloc hbr.size _⟩
          case measure => simp [intOf]; omega
    · have hj46 : j = 46 := by omega
      subst hj46
      have hR0 : R = noRow := by rw [← hfind.out, List.drop_eq_nil_of_le (by rw [hlen]; omega)]; rfl
      have hR0H : Hid (R = noRow) := hR0
      clear hR0 hfind hRH
      go_wp2
      rw [set4 _ _ 56 haH.out, hR0H.out]
      exact bodyPost_ret (v := .agg #[.string ⟨#[]⟩, .int .i64 0, .int .i64 0, .string ⟨#[]⟩]) (results_cell_row rfl _ _ (w.heap.size + 1) 56 _ (0, 0) _ rfl (setRow_heap _ _ _ _ 56 (0, 0) haH.out) Tryz.underlying56 rfl (by kernel_rfl)) rfl ⟨rfl, below_setRow hwr.out (by omega) _⟩
theorem rowOf_calls (o k a b : Int) (T C N Y : ByteArray) (ta : Option Addr) (n c : Nat) (w : World) :
    Calls Tryz.prog 42 #[.agg #[.int .i64 o, .int .i64 k, .int .i64 a, .int .i64 b, .string T, .string C, .string N, .string Y, .slice ta n c]] w fun e w' => e = .returned (.agg (rowCells (theRow o b rowsT)).toArray) ∧ Below w.heap.size w w' := by
  by_cases h31 : o = 31
  · subst h31; exact rowOf_get k a b T C N Y ta n c w
  · by_cases h32 : o = 32
    · subst h32; exact rowOf_put k a b T C N Y ta n c w
    · exact rowOf_none o k a b T C N Y ta n c w (by simpa using h31) (by simpa using h32)
end Go.Proofs.YtcencddbdidjjaaGreatDoor

/- Words in memory; the lists of words of impl; an append of words. -/
namespace Go.Proofs.YtcencddbdidjjaaGreatDoor
set_option linter.unusedVariables false
open Go.ChangeShapes Go.WideShapes Go.ChangeAt Go.RowKit

/-- The slice v holds the words ws, in a block from B on. -/
def WordsAt (B : Nat) (W : World) (v : Value) (ws : List (List UInt8)) : Prop := W.ownsRow B 9 1 v ws.length (rowS ws)
theorem str_info : ∃ i, Tryz.prog.info? 9 = some i ∧ i.zero = some (.string ByteArray.empty) ∧ i.size = 1 ∧ i.bytes = 16 := by
  obtain ⟨i0, hi⟩ : ∃ i, Tryz.prog.info? 9 = some i := Option.isSome_iff_exists.1 (by kernel_rfl)
  refine ⟨i0, hi, ?_, ?_, ?_⟩
  · have : (Tryz.prog.info? 9).bind (·.zero) = some (.string ByteArray.empty) := by kernel_rfl
    rw [hi] at this; exact this
  · have : (Tryz.prog.info? 9).map (·.size) = some 1 := by kernel_rfl
    rw [hi] at this; exact Option.some.inj this
  · have : (Tryz.prog.info? 9).map (·.bytes) = some 16 := by kernel_rfl
    rw [hi] at this; exact Option.some.inj this
theorem rowS_append (a b : List (List UInt8)) : rowS (a ++ b) = rowS a ++ rowS b := by simp [rowS]
theorem WordsAt.kept {B : Nat} {W W' : World} {v : Value} {ws : List (List UInt8)} (h : WordsAt B W v ws) (hb : Below W.heap.size W W') : WordsAt B W' v ws := by
  obtain ⟨h1, h2 | ⟨g, cap, cur, e1, e2, e3, e4⟩⟩ := h
  · exact ⟨h1, .inl h2⟩
  · exact ⟨h1, .inr ⟨g, cap, cur, e1, e2, by rw [hb.block g (Array.getElem?_eq_some_iff.1 e3).1]; exact e3, e4⟩⟩
/-- At work on words that lay in v0 at w: they lie in v now, from B on; all below B is as it was, and all that lay at w but the words' own block. -/
structure Wrk (B : Nat) (w : World) (v0 : Value) (ws : List (List UInt8)) (v : Value) (W : World) : Prop where
  words : WordsAt B W v ws
  below : Below B w W
  le : B ≤ W.heap.size
  kept : ∀ q, q < w.heap.size → v0.ownBlock ≠ some q → W.heap[q]? = w.heap[q]?
  own : v.ownBlock = v0.ownBlock ∨ ∃ g, v.ownBlock = some g ∧ w.heap.size ≤ g
theorem Wrk.drew {B : Nat} {w W : World} {v0 v : Value} {ws : List (List UInt8)} (h : Wrk B w v0 ws v W) : Wrk B w v0 ws v W.drew := ⟨h.words.drew, h.below.drew, h.le, h.kept, h.own⟩
theorem Wrk.call {B : Nat} {w W W' : World} {v0 v : Value} {ws : List (List UInt8)} (h : Wrk B w v0 ws v W) (hb : Below W.heap.size W W') : Wrk B w v0 ws v W' :=
  ⟨h.words.kept hb, h.below.trans (hb.mono h.le), Nat.le_trans h.le hb.size, fun q hq hv => by rw [hb.block q (Nat.lt_of_lt_of_le hq h.below.size)]; exact h.kept q hq hv, h.own⟩
theorem Wrk.alloc {B : Nat} {w W : World} {v0 v : Value} {ws : List (List UInt8)} (h : Wrk B w v0 ws v W) (o : Obj) : Wrk B w v0 ws v (W.alloc o) := h.call ((Below.refl _ _).alloc (Nat.le_refl _) _)
theorem Wrk.start {B : Nat} {w : World} {v : Value} {ws : List (List UInt8)} (h : WordsAt B w v ws) (hB : B ≤ w.heap.size) : Wrk B w v ws v w := ⟨h, Below.refl _ _, hB, fun _ _ _ => rfl, .inl rfl⟩
theorem wp_appX {o : Oper} {a : Act} {K : Act → World → Prop} {Q : Exit → Act → World → Prop} (W : World) (s x : Operand)
    (ho : o.op = .call { callee := .builtin .append, args := #[s, x], argTypes := #[34, 34] }) (B : Nat) (w : World) (v0 v : Value) (ws : List (List UInt8)) (p : List UInt8) (g : Nat) (hs : a.eval s = v) (hx : a.eval x = .slice (some ⟨g, 0, none⟩) 1 1)
    (hc : W.cell? ⟨g, 0, none⟩ = some (.string (mkS p))) (hw : Wrk B w v0 ws v W) (hn : ws.length ≤ 1073741000)
    (h : ∀ v' w', Hid (Wrk B w v0 (ws ++ [p]) v' w') → K (a.put o.dst v') w') : o.wp Tryz.prog a W K Q := by
  obtain ⟨i0, hi, hz0, hz1, hz2⟩ := str_info
  obtain ⟨v', w', hr, h2, h3, -, h5⟩ := run_append_own_at (P := Tryz.prog) W B 34 o.type 9 i0 (.string ByteArray.empty) 1 16 Tryz.underlying34 hi hz0 hz1 hz2 rfl (by decide) v ws.length (rowS ws) hw.words ⟨g, 0, none⟩ 1 1 (rowS [p]) rfl (by
      intro j u hj
      match j, hj with
      | 0, hj =>
        have e : u = .string (mkS p) := by simpa [rowS] using hj.symm
        rw [e]; exact hc) (by
      intro u hu
      have e : u = .string (mkS p) := by simpa [rowS] using hu
      rw [e]; rfl) (by unfold maxLen; omega) (by omega) hw.le
  unfold Oper.wp execOp
  simp only [ho, resolve, invoke, builtin, Sem.run_bind, Sem.run_pure, Result.andThen_ok, List.map_toArray, List.map_cons, List.map_nil, hs, hx, hr]
  have hb1 : Below B W w' := (Below.refl B W).grown h3 hw.le (fun j hj => ((hw.words.lt j hj).1))
  have hsz := hw.below.size
  refine h v' w' ⟨?_, hw.below.trans hb1, Nat.le_trans hw.le hb1.size, fun q hq hv => ?_, ?_⟩
  · unfold WordsAt
    rw [List.length_append, rowS_append]; exact h2
  · obtain ⟨_, _, _, _, hk⟩ := h3
    rw [hk q (by omega) (by
      intro e
      rcases hw.own with e2 | ⟨g', e2, hg'⟩
      · exact hv (by rw [← e2]; exact e.symm)
      · rw [e2] at e; injection e with e; omega)]
    exact hw.kept q hq hv
  · rcases h5 with e | e
    · rw [e]; exact hw.own
    · exact .inr ⟨_, e, hsz⟩
theorem appX {ops : Array Oper} {rest : List Oper} {o : Oper} {a : Act} {Q : Exit → Act → World → Prop} (hgd : o.guard = none) (W : World) (s x : Operand)
    (ho : o.op = .call { callee := .builtin .append, args := #[s, x], argTypes := #[34, 34] }) (B : Nat) (w : World) (v0 v : Value) (ws : List (List UInt8)) (p : List UInt8) (g : Nat) (hs : a.eval s = v) (hx : a.eval x = .slice (some ⟨g, 0, none⟩) 1 1)
    (hc : W.cell? ⟨g, 0, none⟩ = some (.string (mkS p))) (hw : Wrk B w v0 ws v W) (hn : ws.length ≤ 1073741000)
    (h : ∀ v' w', Hid (Wrk B w v0 (ws ++ [p]) v' w') → wpList Tryz.prog ops Q rest (a.put o.dst v') w') : wpList Tryz.prog ops Q (o :: rest) a W :=
  wpList_plain hgd fun _ hK => wp_appX W s x ho B w v0 v ws p g hs hx hc hw hn fun v' w' h2 => hK _ _ (h v' w' h2)
/-- The same, with a record in block q beside. -/
structure RegI (B : Nat) (w : World) (ws : List (List UInt8)) (v : Value) (q : Nat) (I : Array Value) (W : World) : Prop where
  wrk : Wrk B w v ws v W
  ins : W.heap[q]? = some (.cells I 27 (0, 0))
theorem RegI.drew {B : Nat} {w W : World} {ws : List (List UInt8)} {v : Value} {q : Nat} {I : Array Value} (h : RegI B w ws v q I W) : RegI B w ws v q I W.drew := ⟨h.wrk.drew, h.ins⟩
theorem RegI.call {B : Nat} {w W W' : World} {ws : List (List UInt8)} {v : Value} {q : Nat} {I : Array Value} (h : RegI B w ws v q I W) (hb : Below W.heap.size W W') : RegI B w ws v q I W' := ⟨h.wrk.call hb, by rw [hb.block q (Array.getElem?_eq_some_iff.1 h.ins).1]; exact h.ins⟩
theorem RegI.alloc {B : Nat} {w W : World} {ws : List (List UInt8)} {v : Value} {q : Nat} {I : Array Value} (h : RegI B w ws v q I W) (o : Obj) : RegI B w ws v q I (W.alloc o) := h.call ((Below.refl _ _).alloc (Nat.le_refl _) _)
theorem RegI.cell {B : Nat} {w W : World} {ws : List (List UInt8)} {v : Value} {q : Nat} {I : Array Value} (h : RegI B w ws v q I W) (j : Nat) : W.cell? ⟨q, j, none⟩ = I[j]? := by simp [World.cell?, h.ins]
theorem RegI.start {B : Nat} {w : World} {ws : List (List UInt8)} {v : Value} (I : Array Value) (h : WordsAt B w v ws) (hB : B ≤ w.heap.size) : RegI B w ws v w.heap.size I (w.alloc (.cells I 27)) :=
  ⟨(Wrk.start h hB).alloc _, heap_alloc_last w _⟩
def kindT : List (List UInt8) := [[], [73], [74], [68], [82]]
set_option maxRecDepth 1000000 in
theorem kindWords_calls (w : World) : Calls Tryz.prog 69 #[] w fun e w' => e = .returned (.slice (some ⟨w.heap.size, 0, none⟩) 5 5) ∧ w' = w.alloc (.cells (rowS kindT).toArray 9) := by
  go_enter Tryz.func69, Tryz.ntmps69
  go_wp2
  go_ret
  exact ⟨rfl, rfl⟩
def convT : List (List UInt8) := [[], [73], [74], [68], [], [66], [67], [83]]
set_option maxRecDepth 1000000 in
theorem convWords_calls (w : World) : Calls Tryz.prog 72 #[] w fun e w' => e = .returned (.slice (some ⟨w.heap.size, 0, none⟩) 8 8) ∧ w' = w.alloc (.cells (rowS convT).toArray 9) := by
  go_enter Tryz.func72, Tryz.ntmps72
  go_wp2
  go_ret
  exact ⟨rfl, rfl⟩
def condT : List (List UInt8) := [[], [101, 113], [110, 101], [108, 116], [103, 101], [103, 116], [108, 101]]
set_option maxRecDepth 1000000 in
theorem condWords_calls (w : World) : Calls Tryz.prog 73 #[] w fun e w' => e = .returned (.slice (some ⟨w.heap.size, 0, none⟩) 7 7) ∧ w' = w.alloc (.cells (rowS condT).toArray 9) := by
  go_enter Tryz.func73, Tryz.ntmps73
  go_wp2
  go_ret
  exact ⟨rfl, rfl⟩
def callT : List (List UInt8) := [[], [115, 116, 97, 116, 105, 99], [118, 105, 114, 116, 117, 97, 108], [115, 112, 101, 99, 105, 97, 108], [105, 110, 116, 101, 114, 102, 97, 99, 101]]
set_option maxRecDepth 1000000 in
theorem callWords_calls (w : World) : Calls Tryz.prog 74 #[] w fun e w' => e = .returned (.slice (some ⟨w.heap.size, 0, none⟩) 5 5) ∧ w' = w.alloc (.cells (rowS callT).toArray 9) := by
  go_enter Tryz.func74, Tryz.ntmps74
  go_wp2
  go_ret
  exact ⟨rfl, rfl⟩
end Go.Proofs.YtcencddbdidjjaaGreatDoor
