/- Two rows of numbers put together: slices.Grow, slices.Concat. -/
import Derived.Test.YtchcdlelaklnnaaGpR
import Derived.Shelf.Spec.SlicesGrow
import Derived.Test.YtchcdlelaklnnaaProg
import Derived.Shelf.SortM.Plain
import Derived.Shelf.SortM.SortNone
namespace Go.Proofs
open Go.Shelf
def Try.laysG4_ren : Go.Shelf.Ren := ⟨fun | 4 => 62 | n => n, fun | 0 => 0 | 3 => 3 | 4 => 4 | 9 => 9 | 20 => 20 | 22 => 32 | 25 => 2 | n => n, fun | n => n⟩
theorem Try.laysG4 : Go.Proofs.Lays8.n4 Try.prog Try.laysG4_ren := {
  mixed := by kernel_rfl
  f4 := ⟨"slices.Grow[[]int64,int64]", by decide, Try.func62.trans (congrArg some (by kernel_rfl))⟩
  t0 := Try.underlying0
  a0 := Try.isAgg0
  z0 := Try.sizeOf0
  v0 := Try.zeroValue0
  t3 := Try.underlying3
  a3 := Try.isAgg3
  z3 := Try.sizeOf3
  v3 := Try.zeroValue3
  t4 := Try.underlying4
  a4 := Try.isAgg4
  z4 := Try.sizeOf4
  v4 := Try.zeroValue4
  t9 := Try.underlying9
  a9 := Try.isAgg9
  z9 := Try.sizeOf9
  v9 := Try.zeroValue9
  t20 := Try.underlying20
  a20 := Try.isAgg20
  z20 := Try.sizeOf20
  v20 := Try.zeroValue20
  t22 := Try.underlying32
  a22 := Try.isAgg32
  z22 := Try.sizeOf32
  v22 := Try.zeroValue32 }
end Go.Proofs
namespace Go.Proofs.Ytchcdlelaklnnaa
set_option linter.unusedVariables false
open Go.ChangeShapes Go.WideShapes Go.ChangeAt Go.RowKit
theorem grow_calls (n : Nat) (w : World) (hn2 : n ≤ 1073741824) : Calls Try.prog 62 #[.slice none 0 0, .int .i64 n] w fun e w' => ∃ v, e = .returned v ∧ OutAt w.heap.size w' v [] ∧ Below w.heap.size w w' := by
  by_cases hn : n = 0
  · subst hn
    refine (Any8.slices_Grow_room Try.laysG4 none 0 0 0 w (by omega) (by omega) (by omega) (by omega)).mono ?_
    rintro e w' ⟨rfl, rfl⟩
    exact ⟨_, rfl, ⟨rfl, .inl ⟨rfl, rfl⟩⟩, Below.refl _ _⟩
  obtain ⟨i0, hi, hz0, hz1, hz2⟩ := int_info
  refine (Any8.slices_Grow_grow Try.laysG4 i0 (.int .i64 0) hi hz0 (by rw [hz1]; decide) none 0 0 n [] w (by omega) (by omega) (by rw [hz2]; omega) (by omega) (by simp) (fun _ => rfl) (fun a h => by cases h)).mono ?_
  rintro e w' ⟨rfl, rfl⟩
  have h1 := grownCap_ge w (0 + n) 0 2
  have h2 := grownCap_le_maxLen w (0 + n) 0 2 (by unfold maxLen; omega)
  refine ⟨_, rfl, ⟨rfl, .inr ⟨w.heap.size, grownCap w (0 + n) 0 2, _, rfl, Nat.le_refl _, heap_alloc_new w.drew _, Nat.zero_le _, h2, ?_, ?_⟩⟩, (Below.refl _ _).drew.alloc (Nat.le_refl _) _⟩
  · have hz : (Value.int .i64 0).cells.size = 1 := rfl
    show (#[] ++ _ ++ _ : Array Value).size = grownCap w (0 + n) 0 2 * 1
    rw [Array.size_append, Array.size_append, size_zeroCells, size_zeroCells, hz]
    show 0 + (0 + n - 0) * 1 + (grownCap w (0 + n) 0 2 - (0 + n)) * 1 = grownCap w (0 + n) 0 2 * 1
    omega
  · simp [intsV]

set_option maxRecDepth 1000000 in
set_option maxHeartbeats 4000000 in
theorem concat2_calls (p : Nat) (a0 a1 : Option Addr) (n0 n1 c0 c1 : Nat) (xs ys : List Int) (w : World) (hx : n0 = xs.length) (hy : n1 = ys.length) (hp0 : w.cell? ⟨p, 0, none⟩ = some (.slice a0 n0 c0)) (hp1 : w.cell? ⟨p, 1, none⟩ = some (.slice a1 n1 c1)) (hn0 : n0 ≤ 1048576) (hn1 : n1 ≤ 1048576)
    (hs0 : ∀ W, Below w.heap.size w W → SrcAt W 1 (.slice a0 n0 c0) n0 (intsV xs)) (hs1 : ∀ W, Below w.heap.size w W → SrcAt W 1 (.slice a1 n1 c1) n1 (intsV ys)) :
    Calls Try.prog 39 #[.slice (some ⟨p, 0, none⟩) 2 2] w fun e w' => ∃ v, e = .returned v ∧ OutAt w.heap.size w' v (xs ++ ys) ∧ Below w.heap.size w w' := by
  have hs0H : Hid (∀ W, Below w.heap.size w W → SrcAt W 1 (.slice a0 n0 c0) n0 (intsV xs)) := hs0
  have hs1H : Hid (∀ W, Below w.heap.size w W → SrcAt W 1 (.slice a1 n1 c1) n1 (intsV ys)) := hs1
  have hxH : Hid (n0 = xs.length) := hx
  have hyH : Hid (n1 = ys.length) := hy
  obtain ⟨i9, hi9, hz9, hs9, hb9⟩ := int_info
  have hpl : Hid (p < w.heap.size) := block_lt_of_cell hp0
  clear hs0 hs1 hx hy
  have k0 : ¬ (n0 : Int) < 0 := by omega
  have k1 : ¬ ((n0 + n1 : Nat) : Int) < 0 := by omega
  have hn0' : (n0 : Int) ≤ 1048576 := by omega
  have hn1' : (n1 : Int) ≤ 1048576 := by omega
  have k2 : ¬ (n0 : Int) + (n1 : Int) < 0 := by omega
  go_enter Try.func39, Try.ntmps39
  go_wp2
  go_loopw [3, 11] (fun sv iv wr => wr = w ∧ ((sv = .int .i64 0 ∧ iv = .int .i64 0) ∨ (sv = .int .i64 n0 ∧ iv = .int .i64 1) ∨ (sv = .int .i64 ((n0 + n1 : Nat) : Int) ∧ iv = .int .i64 2))) (fun _ iv _ => 2 - (intOf iv).toNat)
  case atStart => exact ⟨rfl, .inl ⟨rfl, rfl⟩⟩
  case round =>
    obtain ⟨hw, ⟨rfl, rfl⟩ | ⟨rfl, rfl⟩ | ⟨rfl, rfl⟩⟩ := hrel
    · have hw2 := hw.symm
      subst hw2
      go_wp2
      go_roundw
      case rel => exact ⟨by first | trivial | rfl, .inr (.inl ⟨by go_num, by go_num⟩)⟩
      case measure => simp [intOf]
    · have hw2 := hw.symm
      subst hw2
      go_wp2
      go_roundw
      case rel => exact ⟨by first | trivial | rfl, .inr (.inr ⟨by go_num, by go_num⟩)⟩
      case measure => simp [intOf]
    · have hw2 := hw.symm
      subst hw2
      have hp0H : Hid (w.cell? ⟨p, 0, none⟩ = some (.slice a0 n0 c0)) := hp0
      have hp1H : Hid (w.cell? ⟨p, 1, none⟩ = some (.slice a1 n1 c1)) := hp1
      go_wp2_with (go_at_call 62; refine (grow_calls (n0 + n1) _ (by omega)).mono ?_; rintro e W2 ⟨v2, rfl, hv2, hb2⟩; have hv2H : Hid (OutAt w.heap.size W2 v2 []) := hv2; have hb2H : Hid (Below w.heap.size w W2) := hb2; clear hv2 hb2)
      clear hp0 hp1 hw
      go_loopw [6, 27] (fun v iv wr => ((iv = .int .i64 0 ∧ Hid (OutAt w.heap.size wr v [])) ∨ (iv = .int .i64 1 ∧ Hid (OutAt w.heap.size wr v xs)) ∨ (iv = .int .i64 2 ∧ Hid (OutAt w.heap.size wr v (xs ++ ys)))) ∧ Hid (Below w.heap.size w wr)) (fun _ iv _ => 2 - (intOf iv).toNat)
      case atStart => exact ⟨.inl ⟨rfl, hv2H⟩, hb2H⟩
      case round =>
        obtain ⟨⟨rfl, hv⟩ | ⟨rfl, hv⟩ | ⟨rfl, hv⟩, hb⟩ := hrel
        · have q0 : wr.cell? ⟨p, 0, none⟩ = some (.slice a0 n0 c0) := (hb.out.cell (p := ⟨p, 0, none⟩) hpl.out).trans hp0H.out
          have hsW : Hid (SrcAt wr 1 (.slice a0 n0 c0) n0 (intsV xs)) := hs0H.out wr hb.out
          obtain ⟨ra, rc, rfl⟩ := own_slice hv.out
          go_wp2_with (refine wpList_append_src rfl (.tmp 31) (.tmp 32) 32 rfl w.heap.size 2 i9 (.int .i64 0) 1 8 Try.underlying32 hi9 hz9 hs9 hb9 rfl (by omega) _ 0 [] rfl hv.out _ _ _ rfl hsW.out (intsV_one _) (by unfold maxLen; omega) (by omega) hb.out.size (fun v' w2 hown2 hgrow2 hat2 => ?_))
          have hv3 : Hid (OutAt w.heap.size w2 v' xs) := by have := hown2; rw [Nat.zero_add, hxH.out] at this; exact this
          have hb3 : Hid (Below w.heap.size w w2) := hb.out.grown hgrow2 hb.out.size (fun k hk => (World.ownsRow.lt hv.out k hk).1)
          clear hown2 hgrow2 hat2 hv hb q0 hsW
          go_roundw
          case rel => exact ⟨.inr (.inl ⟨by go_num, hv3⟩), hb3⟩
          case measure => simp [intOf]
        · have q1 : wr.cell? ⟨p, 1, none⟩ = some (.slice a1 n1 c1) := (hb.out.cell (p := ⟨p, 1, none⟩) hpl.out).trans hp1H.out
          have hsW : Hid (SrcAt wr 1 (.slice a1 n1 c1) n1 (intsV ys)) := hs1H.out wr hb.out
          obtain ⟨ra, rc, rfl⟩ := own_slice hv.out
          have hxl : Hid (xs.length ≤ 1048576) := by have := hxH.out; show _ ≤ _; omega
          go_wp2_with (refine wpList_append_src rfl (.tmp 31) (.tmp 32) 32 rfl w.heap.size 2 i9 (.int .i64 0) 1 8 Try.underlying32 hi9 hz9 hs9 hb9 rfl (by omega) _ xs.length (intsV xs) rfl hv.out _ _ _ rfl hsW.out (intsV_one _) (by have := hxl.out; unfold maxLen; omega) (by have := hxl.out; omega) hb.out.size (fun v' w2 hown2 hgrow2 hat2 => ?_))
          have hv3 : Hid (OutAt w.heap.size w2 v' (xs ++ ys)) := by
            have := hown2
            rw [hyH.out, ← intsV_append] at this
            show World.ownsRow _ _ _ _ _ _ _
            rw [List.length_append]
            exact this
          have hb3 : Hid (Below w.heap.size w w2) := hb.out.grown hgrow2 hb.out.size (fun k hk => (World.ownsRow.lt hv.out k hk).1)
          clear hown2 hgrow2 hat2 hv hb q1 hsW
          go_roundw
          case rel => exact ⟨.inr (.inr ⟨by go_num, hv3⟩), hb3⟩
          case measure => simp [intOf]
        · go_wp2
          go_ret
          exact ⟨_, rfl, hv.out, hb.out⟩
end Go.Proofs.Ytchcdlelaklnnaa

/- The map of the program's objects as it is made: one object after another. -/
namespace Go.Proofs.Ytchcdlelaklnnaa
set_option linter.unusedVariables false
open Go.ChangeShapes Go.WideShapes Go.ChangeAt Go.RowKit Go.Maps

/-- What the map tells of z behind k objects. -/
def retK (objs : List GobL) (k : Nat) (z : Int) : List Nat := if z ≠ 0 then ixK objs k z else []
theorem retK_end (objs : List GobL) : retK objs objs.length = retL objs [] := by
  funext z
  simp [retK, retL]
theorem retK_zero (objs : List GobL) : retK objs 0 = fun _ => [] := by
  funext z
  simp [retK, ixK_zero]
theorem retK_skip {objs : List GobL} {k : Nat} (hk : k < objs.length) (h : objs[k].id = 0) : retK objs (k + 1) = retK objs k := by
  funext z
  unfold retK
  split
  · rename_i hz
    rw [ixK_succ _ _ _ hk, if_neg (by omega)]
  · rfl
theorem retK_put {objs : List GobL} {k : Nat} (hk : k < objs.length) (h : objs[k].id ≠ 0) : retK objs (k + 1) = fun y => if y = objs[k].id then retK objs k y ++ [k] else retK objs k y := by
  funext y
  by_cases e : y = objs[k].id
  · rw [if_pos e]
    unfold retK
    rw [if_pos (by omega), if_pos (by omega), ixK_succ _ _ _ hk, if_pos e.symm]
  · rw [if_neg e]
    unfold retK
    split
    · rw [ixK_succ _ _ _ hk, if_neg (fun q => e q.symm)]
    · rfl
theorem retK_len (objs : List GobL) (k : Nat) (z : Int) : (retK objs k z).length ≤ k := by
  unfold retK
  split
  · exact ixK_length _ _ _
  · simp
theorem MapOf.more {w : World} {M n n' : Nat} {f : Int → List Nat} {g : Int → Value} {D : DataW Value} (h : MapOf w M n f g D) (hn : n ≤ n') : MapOf w M n' f g D := by
  obtain ⟨⟨es, clock, h1, h2, h3, h4⟩, h5, h6⟩ := h
  exact ⟨⟨es, clock, h1, h2, by omega, h4⟩, h5, h6⟩
/-- Where the making of the map stands: w is the call's world, X its argument's block, M the map, V the map's variable; rows of objects lie from B on. -/
structure MkW (w wr : World) (args : List Value) (X M V B b0 : Nat) (objs : List GobL) (k : Nat) (g : Int → Value) : Prop where
  below : Below w.heap.size w wr
  xc : wr.rangeAt X 0 args
  vc : wr.cell? ⟨V, 0, none⟩ = some (.map (some M))
  vM : V ≠ M
  lo : w.heap.size ≤ M ∧ M < B ∧ V < B ∧ X < B ∧ X ≠ M ∧ B ≤ wr.heap.size
  mp : ∃ D, MapOf wr M k (retK objs k) g D
  rows : RowsOf wr B b0 (retK objs k) g
/-- What the map tells of z, as a value. -/
def rowV (objs : List GobL) (k : Nat) (g : Int → Value) (z : Int) : Value := if (retK objs k z).isEmpty then nilV else g z
theorem RowsOf.val {w : World} {B b0 k : Nat} {objs : List GobL} {g : Int → Value} (h : RowsOf w B b0 (retK objs k) g) (z : Int) : w.ownsRow B 83 1 (rowV objs k g z) (retK objs k z).length (ptrsV b0 (retK objs k z)) := by
  unfold rowV
  split
  · rename_i e
    have e' : retK objs k z = [] := by simpa using e
    rw [e']
    exact ⟨rfl, .inl ⟨rfl, rfl⟩⟩
  · rename_i e
    exact h.row z (by simpa using e)
theorem MkW.skip {w wr : World} {args : List Value} {X M V B b0 k : Nat} {objs : List GobL} {g : Int → Value} (h : MkW w wr args X M V B b0 objs k g) (hk : k < objs.length) (e : objs[k].id = 0) : MkW w wr args X M V B b0 objs (k + 1) g := by
  refine ⟨h.below, h.xc, h.vc, h.vM, h.lo, ?_, ?_⟩
  · rw [retK_skip hk e]
    obtain ⟨D, hD⟩ := h.mp
    exact ⟨D, hD.more (by omega)⟩
  · rw [retK_skip hk e]
    exact h.rows
theorem MkW.put {w wr W1 w2 w3 : World} {args : List Value} {X M V B b0 k : Nat} {objs : List GobL} {g : Int → Value} {v : Value} {D : DataW Value} (h : MkW w wr args X M V B b0 objs k g) (hk : k < objs.length) (hz : objs[k].id ≠ 0)
    (hb1 : Below wr.heap.size wr W1) (hg2 : W1.grownBy w2 (rowV objs k g objs[k].id).ownBlock) (hown : w2.ownsRow B 83 1 v ((retK objs k objs[k].id).length + 1) (ptrsV b0 (retK objs k objs[k].id) ++ ptrsV b0 [k]))
    (hat : v.ownBlock = (rowV objs k g objs[k].id).ownBlock ∨ v.ownBlock = some W1.heap.size) (hD : MapOf wr M k (retK objs k) g D)
    (ho3 : w3.ownsMap Try.prog 2 RV M (k + 1) (D.put (.int .i64 objs[k].id) (.held v))) (ht : w2.mapTurned w3 M) : ∃ g', MkW w w3 args X M V B b0 objs (k + 1) g' := by
  obtain ⟨l1, l2, l3, l4, l5, l6⟩ := h.lo
  have hrv := h.rows.val objs[k].id
  have hlt : ∀ j, (rowV objs k g objs[k].id).ownBlock = some j → B ≤ j ∧ j < wr.heap.size := fun j hj => World.ownsRow.lt hrv j hj
  have s1 := hb1.size
  have s2 := hg2.size
  have ht3 := ht.grown
  have s3 := ht3.size
  have kp : ∀ j, j < wr.heap.size → (rowV objs k g objs[k].id).ownBlock ≠ some j → j ≠ M → w3.heap[j]? = wr.heap[j]? := fun j hj hne hM => by
    rw [ht3.block j (by omega) (fun e => hM (by cases e; rfl)), hg2.block j (by omega) (fun e => hne e.symm), hb1.block j hj]
  have kpB : ∀ j, j < B → j ≠ M → w3.heap[j]? = wr.heap[j]? := fun j hj hM => kp j (by omega) (fun e => by have := (hlt j e).1; omega) hM
  refine ⟨fun y => if y = objs[k].id then v else g y, ?_, ?_, ?_, h.vM, ⟨l1, l2, l3, l4, l5, by omega⟩, ⟨D.put (.int .i64 objs[k].id) (.held v), ?_⟩, ?_, ?_⟩
  · have hws := h.below.size
    refine ⟨ht3.os.trans (hg2.os.trans (hb1.os.trans h.below.os)), ht3.tape.trans (hg2.tape.trans (hb1.tape.trans h.below.tape)), ht3.output.trans (hg2.output.trans (hb1.output.trans h.below.output)), by omega, fun j hj => ?_⟩
    rw [kpB j (by omega) (by omega)]
    exact h.below.block j hj
  · intro j u hj
    exact (World.cell?_of_block (w := wr) (a := ⟨X, 0 + j, none⟩) (kpB X l4 l5)).trans (h.xc j u hj)
  · exact (World.cell?_of_block (w := wr) (kpB V l3 h.vM)).trans h.vc
  · rw [retK_put hk hz]
    exact hD.put ho3
  · intro y hy
    rw [retK_put hk hz] at hy ⊢
    by_cases e : y = objs[k].id
    · subst e
      simp only [if_true, List.length_append, List.length_singleton, ptrsV_append]
      exact own_kept hown fun j hj => ht3.block j (World.ownsRow.lt hown j hj).2 fun q => by
        have := (World.ownsRow.lt hown j hj).1
        cases q
        omega
    · simp only [if_neg e] at hy ⊢
      refine own_kept (h.rows.row y hy) fun j hj => ?_
      have hj2 := World.ownsRow.lt (h.rows.row y hy) j hj
      refine kp j hj2.2 (fun q => ?_) (by omega)
      unfold rowV at q
      split at q
      · simp [nilV, Value.ownBlock] at q
      · rename_i hne
        exact h.rows.apart y objs[k].id hy (by simpa using hne) e (hj.trans q.symm)
  · intro y y' hy hy' hne
    rw [retK_put hk hz] at hy hy'
    have key : ∀ y, y ≠ objs[k].id → retK objs k y ≠ [] → v.ownBlock ≠ (g y).ownBlock := fun y e hy q => by
      obtain ⟨c, cc, ec⟩ := own_some (h.rows.row y hy) (List.length_pos_iff.2 hy)
      have hj2 := World.ownsRow.lt (h.rows.row y hy) c (by rw [ec]; rfl)
      rcases hat with h1 | h1
      · rw [h1] at q
        unfold rowV at q
        split at q
        · rw [ec] at q; simp [nilV, Value.ownBlock] at q
        · rename_i hne
          exact h.rows.apart objs[k].id y (by simpa using hne) hy (fun q => e q.symm) q
      · rw [h1, ec] at q
        simp only [Value.ownBlock, Option.some.injEq] at q
        omega
    by_cases e : y = objs[k].id
    · have e' : y' ≠ objs[k].id := fun q => hne (e.trans q.symm)
      simp only [if_neg e', if_pos e] at hy' ⊢
      exact key y' e' hy'
    · simp only [if_neg e] at hy ⊢
      by_cases e' : y' = objs[k].id
      · simp only [if_pos e']
        exact fun q => key y e hy q.symm
      · simp only [if_neg e'] at hy' ⊢
        exact h.rows.apart y y' hy hy' hne
end Go.Proofs.Ytchcdlelaklnnaa

/- The sort of numbers, laid at this program. -/
namespace Go.Proofs
open Go.Shelf
def Try.laysort_ren : Go.Shelf.Ren := ⟨fun | 5 => 41 | 8 => 64 | 7 => 63 | 19 => 86 | 20 => 87 | 10 => 77 | 11 => 78 | 12 => 79 | 13 => 80 | 14 => 81 | 15 => 82 | 16 => 83 | 17 => 84 | 18 => 85 | 30 => 89 | 31 => 90 | 32 => 91 | 33 => 92 | 34 => 93 | 35 => 94 | 40 => 95 | n => n, fun | 23 => 32 | 25 => 2 | 3 => 3 | 32 => 116 | 22 => 32 | 0 => 0 | 44 => 132 | 46 => 134 | 4 => 4 | 36 => 125 | 35 => 124 | 41 => 129 | 5 => 5 | 9 => 9 | 53 => 136 | 57 => 140 | 63 => 142 | 64 => 143 | n => n, fun | n => n⟩
theorem Try.laysort : Go.Proofs.SlLaysM.n5 Try.prog Try.laysort_ren := {
  mixed := by kernel_rfl
  f5 := ⟨Try.f41.name, by decide, Try.func41.trans (congrArg some (by kernel_rfl))⟩
  f7 := ⟨Try.f63.name, by decide, Try.func63.trans (congrArg some (by kernel_rfl))⟩
  f8 := Try.func64.trans (congrArg some (by kernel_rfl))
  f10 := ⟨Try.f77.name, by decide, Try.func77.trans (congrArg some (by kernel_rfl))⟩
  f11 := ⟨Try.f78.name, by decide, Try.func78.trans (congrArg some (by kernel_rfl))⟩
  f12 := ⟨Try.f79.name, by decide, Try.func79.trans (congrArg some (by kernel_rfl))⟩
  f13 := ⟨Try.f80.name, by decide, Try.func80.trans (congrArg some (by kernel_rfl))⟩
  f14 := ⟨Try.f81.name, by decide, Try.func81.trans (congrArg some (by kernel_rfl))⟩
  f15 := ⟨Try.f82.name, by decide, Try.func82.trans (congrArg some (by kernel_rfl))⟩
  f16 := ⟨Try.f83.name, by decide, Try.func83.trans (congrArg some (by kernel_rfl))⟩
  f17 := ⟨Try.f84.name, by decide, Try.func84.trans (congrArg some (by kernel_rfl))⟩
  f18 := ⟨Try.f85.name, by decide, Try.func85.trans (congrArg some (by kernel_rfl))⟩
  f19 := Try.func86.trans (congrArg some (by kernel_rfl))
  f20 := Try.func87.trans (congrArg some (by kernel_rfl))
  f30 := ⟨Try.f89.name, by decide, Try.func89.trans (congrArg some (by kernel_rfl))⟩
  f31 := Try.func90.trans (congrArg some (by kernel_rfl))
  f32 := Try.func91.trans (congrArg some (by kernel_rfl))
  f33 := ⟨Try.f92.name, by decide, Try.func92.trans (congrArg some (by kernel_rfl))⟩
  f34 := ⟨Try.f93.name, by decide, Try.func93.trans (congrArg some (by kernel_rfl))⟩
  f35 := ⟨Try.f94.name, by decide, Try.func94.trans (congrArg some (by kernel_rfl))⟩
  f40 := ⟨Try.f95.name, by decide, Try.func95.trans (congrArg some (by kernel_rfl))⟩
  t0 := Try.underlying0
  a0 := Try.isAgg0
  z0 := Try.sizeOf0
  v0 := Try.zeroValue0
  t3 := Try.underlying3
  a3 := Try.isAgg3
  z3 := Try.sizeOf3
  v3 := Try.zeroValue3
  t4 := Try.underlying4
  a4 := Try.isAgg4
  z4 := Try.sizeOf4
  v4 := Try.zeroValue4
  t5 := Try.underlying5
  a5 := Try.isAgg5
  z5 := Try.sizeOf5
  v5 := Try.zeroValue5
  t9 := Try.underlying9
  a9 := Try.isAgg9
  z9 := Try.sizeOf9
  v9 := Try.zeroValue9
  t22 := Try.underlying32
  a22 := Try.isAgg32
  z22 := Try.sizeOf32
  v22 := Try.zeroValue32
  t23 := Try.underlying32
  a23 := Try.isAgg32
  z23 := Try.sizeOf32
  v23 := Try.zeroValue32
  t25 := Try.underlying2
  a25 := Try.isAgg2
  z25 := Try.sizeOf2
  v25 := Try.zeroValue2
  t32 := Try.underlying116
  a32 := Try.isAgg116
  z32 := Try.sizeOf116
  v32 := Try.zeroValue116
  t35 := Try.underlying124
  a35 := Try.isAgg124
  z35 := Try.sizeOf124
  v35 := Try.zeroValue124
  t36 := Try.underlying125
  a36 := Try.isAgg125
  z36 := Try.sizeOf125
  v36 := Try.zeroValue125
  t41 := Try.underlying129
  a41 := Try.isAgg129
  z41 := Try.sizeOf129
  v41 := Try.zeroValue129
  t44 := Try.underlying132
  a44 := Try.isAgg132
  z44 := Try.sizeOf132
  v44 := Try.zeroValue132
  t46 := Try.underlying134
  a46 := Try.isAgg134
  z46 := Try.sizeOf134
  v46 := Try.zeroValue134
  t53 := Try.underlying136
  a53 := Try.isAgg136
  z53 := Try.sizeOf136
  v53 := Try.zeroValue136
  t57 := Try.underlying140
  a57 := Try.isAgg140
  z57 := Try.sizeOf140
  v57 := Try.zeroValue140
  t63 := Try.underlying142
  a63 := Try.isAgg142
  z63 := Try.sizeOf142
  v63 := Try.zeroValue142
  t64 := Try.underlying143
  a64 := Try.isAgg143
  z64 := Try.sizeOf143
  v64 := Try.zeroValue143 }
end Go.Proofs
