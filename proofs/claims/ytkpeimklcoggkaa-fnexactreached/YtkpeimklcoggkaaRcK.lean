/- The program's tour: what it holds in memory, and the functions that meet an object. -/
import Derived.Test.YtkpeimklcoggkaaRcJ
import Derived.Maps.OwnSet
import Derived.Deep.RegionHeld
namespace Go.Proofs.Ytkpeimklcoggkaa
set_option linter.unusedVariables false
open Go.ChangeShapes Go.WideShapes Go.ChangeAt Go.RowKit Go.Maps

def btw (a lo hi : Int) : Bool := decide (lo ≤ a) && decide (a ≤ hi)
set_option maxRecDepth 100000 in
theorem between_calls (a lo hi : Int) (w : World) : Calls Try.prog 26 #[.int .i64 a, .int .i64 lo, .int .i64 hi] w fun e w' => e = .returned (.bool (btw a lo hi)) ∧ w' = w := by
  go_enter Try.func26, Try.ntmps26
  by_cases h1 : lo ≤ a
  · by_cases h2 : a ≤ hi
    · go_wp2
      go_ret
      exact ⟨by simp [btw, h1, h2], rfl⟩
    · have h3 : hi < a := by omega
      go_wp2
      go_ret
      exact ⟨by simp [btw, h1, h2], rfl⟩
  · have h3 : a < lo := by omega
    go_wp2
    go_ret
    exact ⟨by rw [btw, decide_eq_false (by omega : ¬ lo ≤ a)]; rfl, rfl⟩
theorem keyI : Keyed Try.prog 2 := int_keyed Try.underlying2
theorem zeroI (w : World) : (zeroValue 2).run Try.prog w = .ok (.int .i64 0) w := by kernel_rfl

/-- The map of those that were met has just the row's numbers. -/
def MetMap (w : World) (M : Nat) (row : List Int) : Prop := ∃ D : DataW Unit, w.ownsMap Try.prog 2 (plainElem Try.prog 2) M row.length D ∧ ∀ z : Int, Maps.has D (.int .i64 z) = decide (z ∈ row)
theorem MetMap.kept {w w' : World} {M : Nat} {row : List Int} {b : Option Nat} (h : MetMap w M row) (hg : w.grownBy w' b) (hne : some M ≠ b) : MetMap w' M row := by
  obtain ⟨D, h1, h2⟩ := h
  exact ⟨D, h1.kept hg hne, h2⟩
theorem MetMap.lt {w : World} {M : Nat} {row : List Int} (h : MetMap w M row) : M < w.heap.size := by
  obtain ⟨D, h1, h2⟩ := h
  exact h1.lt

set_option maxRecDepth 100000 in
set_option maxHeartbeats 1000000 in
theorem meet_calls (T M : Nat) (n : Int) (row : List Int) (w : World) (hn : 0 ≤ n ∧ n ≤ 4000000) (hl : row.length ≤ 4000000) (hc : w.cell? ⟨T, 1, none⟩ = some (.map (some M))) (hm : MetMap w M row) :
    Calls Try.prog 27 #[.pointer (some ⟨T, 0, none⟩), .int .i64 n] w fun e w' => ∃ p : Int, e = .returned (.tuple #[.int .i64 p, .bool (!decide (n ∈ row))]) ∧ (n ∈ row → w' = w) ∧ (n ∉ row → MetMap w' M (row ++ [n]) ∧ w.grownBy w' (some M)) := by
  obtain ⟨D, hown, hhas⟩ := hm
  have hkey : keyOf Try.prog 2 (.int .i64 n) = some (.int .i64 n) := keyOf_int_mk Try.underlying2 (WalkArith.wf_i64 (by omega))
  go_enter Try.func27, Try.ntmps27
  go_wp2_with (first
    | (at_lookup; refine wpList_lookup_own_ok_int _ rfl _ _ 44 rfl 2 2 .i64 keyI Try.underlying44 Try.underlying2 (zeroI _) M row.length D rfl hown _ _ rfl hkey ?_; intro c hat hwc)
    | (at_len; refine wpList_len_own _ rfl _ 44 rfl 2 2 Try.underlying44 _ M row.length D rfl hown ?_)
    | (at_mapUpdate; refine wpList_mapUpdate_own _ rfl _ _ _ 44 rfl 2 2 keyI Try.underlying44 _ M row.length D rfl hown (by unfold maxLen; omega) _ _ _ rfl rfl hkey _ [] (plainElem_int Try.underlying2 (wrap64_wf _)) ?_; intro w1 hown1 hgrow1)
    | go_in)
  · have hq : (!decide (n ∈ row)) = true := by assumption
    have hq' : n ∉ row := by simpa using hq
    go_ret2
    refine ⟨wrap64 ((Maps.size D : Int) + 1), by simp [hq'], fun h => absurd h hq', fun _ => ⟨⟨_, by simpa using hown1, fun z => ?_⟩, hgrow1⟩⟩
    by_cases e : z = n
    · subst e
      rw [has_put_same hown.isMap (k := .int .i64 z) trivial]; simp
    · rw [has_put_other (by simpa using e), hhas]; simp [e]
  · have hq : (!decide (n ∈ row)) = false := by assumption
    have hq' : n ∈ row := by simpa using hq
    go_ret2
    exact ⟨c, by simp [hq'], fun _ => rfl, fun h => absurd hq' h⟩
/-- A tour under way: the tour's own variable (T: the objects, the map M), the variable of its pointer (B), the row's variable (R) and the row. -/
structure TourW (w wr : World) (u0 : Value) (T B R M : Nat) (rv : Value) (row : List Int) : Prop where
  hb : Below w.heap.size w wr
  t0 : wr.cell? ⟨T, 0, none⟩ = some u0
  t1 : wr.cell? ⟨T, 1, none⟩ = some (.map (some M))
  b0 : wr.cell? ⟨B, 0, none⟩ = some (.pointer (some ⟨T, 0, none⟩))
  r0 : wr.cell? ⟨R, 0, none⟩ = some rv
  rf : wr.frozen? ⟨R, 0, none⟩ = false
  own : wr.ownsRow w.heap.size 2 1 rv row.length (row.map (Value.int .i64))
  met : MetMap wr M row
  lo : w.heap.size ≤ T ∧ w.heap.size ≤ B ∧ w.heap.size ≤ R ∧ w.heap.size ≤ M
  hi : T < wr.heap.size ∧ B < wr.heap.size ∧ R < wr.heap.size
  ne : T ≠ M ∧ B ≠ M ∧ R ≠ M ∧ T ≠ R ∧ B ≠ R
  ap : rv.ownBlock ≠ some T ∧ rv.ownBlock ≠ some B ∧ rv.ownBlock ≠ some R ∧ rv.ownBlock ≠ some M
theorem grown_set (w : World) (R : Nat) (v : Value) : w.grownBy (w.setCell ⟨R, 0, none⟩ v) (some R) :=
  ⟨rfl, rfl, rfl, by simp [World.setCell], fun k hk hne => Below.heap_setCell _ _ _ _ (fun e => hne (by rw [e]))⟩
theorem cell_set_same {w : World} {R : Nat} {v : Value} (hc : ∃ u, w.cell? ⟨R, 0, none⟩ = some u) : (w.setCell ⟨R, 0, none⟩ v).cell? ⟨R, 0, none⟩ = some v := by
  obtain ⟨u, hu⟩ := hc
  exact World.cell?_setCells_in R [v] 0 w (fun j hj => by simp at hj; subst hj; simp [hu]) 0 (by simp)
theorem frozen_set (w : World) (R : Nat) (v : Value) (x : Addr) : (w.setCell ⟨R, 0, none⟩ v).frozen? x = w.frozen? x := World.frozen?_setCells R [v] 0 w x
theorem TourW.come {w wr w1 w2 : World} {u0 : Value} {T B R M : Nat} {rv rv' : Value} {row : List Int} {n : Int} {o : Obj} (h : TourW w wr u0 T B R M rv row) (hm : MetMap w1 M (row ++ [n])) (hg1 : wr.grownBy w1 (some M)) (hg2 : (w1.alloc o).grownBy w2 rv.ownBlock)
    (hown : w2.ownsRow w.heap.size 2 1 rv' (row.length + 1) (row.map (Value.int .i64) ++ [Value.int .i64 n])) (hat : rv'.ownBlock = rv.ownBlock ∨ rv'.ownBlock = some (w1.alloc o).heap.size) : TourW w (w2.setCell ⟨R, 0, none⟩ rv') u0 T B R M rv' (row ++ [n]) := by
  obtain ⟨l1, l2, l3, l4⟩ := h.lo
  obtain ⟨i1, i2, i3⟩ := h.hi
  obtain ⟨n1, n2, n3, n4, n5⟩ := h.ne
  obtain ⟨a1, a2, a3, a4⟩ := h.ap
  have s1 := hg1.size
  have s2 := hg2.size
  have sM := hm.lt
  have s0 := h.hb.size
  simp only [World.size_alloc] at s2
  have blk : ∀ g, g < wr.heap.size → g ≠ M → rv.ownBlock ≠ some g → w2.heap[g]? = wr.heap[g]? := fun g q1 q2 q3 => by
    rw [hg2.block g (by simp; omega) (fun e => q3 e.symm), Below.heap_alloc _ _ _ (by omega), hg1.block g q1 (fun e => q2 (by cases e; rfl))]
  have kR : w2.cell? ⟨R, 0, none⟩ = some rv := (World.cell?_of_block (w := wr) (blk R i3 n3 a3)).trans h.r0
  have old : ∀ g k, g < wr.heap.size → g ≠ M → rv.ownBlock ≠ some g → g ≠ R → (w2.setCell ⟨R, 0, none⟩ rv').cell? ⟨g, k, none⟩ = wr.cell? ⟨g, k, none⟩ := fun g k q1 q2 q3 q4 => by
    rw [World.cell?_setCell_far _ _ _ _ (fun e => q4 e.symm)]
    exact World.cell?_of_block (w := wr) (blk g q1 q2 q3)
  have nb : rv'.ownBlock ≠ some T ∧ rv'.ownBlock ≠ some B ∧ rv'.ownBlock ≠ some R ∧ rv'.ownBlock ≠ some M := by
    rcases hat with e | e
    · rw [e]; exact ⟨a1, a2, a3, a4⟩
    · rw [e]
      simp only [World.size_alloc, ne_eq, Option.some.injEq]
      refine ⟨?_, ?_, ?_, ?_⟩ <;> omega
  have hgs : w2.grownBy (w2.setCell ⟨R, 0, none⟩ rv') (some R) := grown_set w2 R rv'
  refine ⟨?_, ?_, ?_, ?_, ?_, ?_, ?_, ?_, ⟨l1, l2, l3, l4⟩, ?_, ⟨n1, n2, n3, n4, n5⟩, nb⟩
  · have b1 := h.hb.grown hg1 s0 (fun k e => by cases e; exact l4)
    have b2 := b1.alloc (by omega) o
    have b3 := b2.grown hg2 (by simp; omega) (fun k e => (own_lt h.own e).1)
    exact b3.setCell (p := ⟨R, 0, none⟩) l3 _
  · rw [old T 0 i1 n1 a1 n4]; exact h.t0
  · rw [old T 1 i1 n1 a1 n4]; exact h.t1
  · rw [old B 0 i2 n2 a2 n5]; exact h.b0
  · exact cell_set_same ⟨_, kR⟩
  · rw [frozen_set, World.frozen?_of_block (w := wr) (blk R i3 n3 a3)]; exact h.rf
  · have := own_kept hown (w' := w2.setCell ⟨R, 0, none⟩ rv') (fun g e => hgs.block g (own_lt hown e).2 (fun q => nb.2.2.1 (by rw [e, q])))
    simpa using this
  · refine ((hm.kept (World.grownBy_alloc w1 o none) (by simp)).kept hg2 (fun e => a4 e.symm)).kept hgs (fun e => n3 (by cases e; rfl))
  · rw [show (w2.setCell ⟨R, 0, none⟩ rv').heap.size = w2.heap.size by simp [World.setCell]]
    omega
end Go.Proofs.Ytkpeimklcoggkaa
