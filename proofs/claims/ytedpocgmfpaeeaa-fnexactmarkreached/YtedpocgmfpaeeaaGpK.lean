/- The map of the program's objects as it is made: one object after another. -/
import Derived.Test.YtedpocgmfpaeeaaGpN
namespace Go.Proofs.Ytedpocgmfpaeeaa
set_option linter.unusedVariables false
open Go.ChangeShapes Go.WideShapes Go.ChangeAt Go.RowKit Go.Maps

/-- What the map tells of z behind k objects. -/
def retK (objs : List GobL) (k : Nat) (z : Int) : List Nat := if z ≠ 0 then ixK objs k z else []
theorem retK_end (objs : List GobL) : retK objs objs.length = retL objs [] := by
  funext z
  simp [retK, retL]
theorem retK_zero (objs : List GobL) : retK objs 0 = fun _ => [] := by
  funext z
  simp [retK, ixK_zero]
theorem retK_skip {objs : List GobL} {k : Nat} (hk : k < objs.length) (h : objs[k].id = 0) : retK objs (k + 1) = retK objs k := by
  funext z
  unfold retK
  split
  · rename_i hz
    rw [ixK_succ _ _ _ hk, if_neg (by omega)]
  · rfl
theorem retK_put {objs : List GobL} {k : Nat} (hk : k < objs.length) (h : objs[k].id ≠ 0) : retK objs (k + 1) = fun y => if y = objs[k].id then retK objs k y ++ [k] else retK objs k y := by
  funext y
  by_cases e : y = objs[k].id
  · rw [if_pos e]
    unfold retK
    rw [if_pos (by omega), if_pos (by omega), ixK_succ _ _ _ hk, if_pos e.symm]
  · rw [if_neg e]
    unfold retK
    split
    · rw [ixK_succ _ _ _ hk, if_neg (fun q => e q.symm)]
    · rfl
theorem retK_len (objs : List GobL) (k : Nat) (z : Int) : (retK objs k z).length ≤ k := by
  unfold retK
  split
  · exact ixK_length _ _ _
  · simp
theorem MapOf.more {w : World} {M n n' : Nat} {f : Int → List Nat} {g : Int → Value} {D : DataW Value} (h : MapOf w M n f g D) (hn : n ≤ n') : MapOf w M n' f g D := by
  obtain ⟨⟨es, clock, h1, h2, h3, h4⟩, h5, h6⟩ := h
  exact ⟨⟨es, clock, h1, h2, by omega, h4⟩, h5, h6⟩
/-- Where the making of the map stands: w is the call's world, X its argument's block, M the map, V the map's variable; rows of objects lie from B on. -/
structure MkW (w wr : World) (args : List Value) (X M V B b0 : Nat) (objs : List GobL) (k : Nat) (g : Int → Value) : Prop where
  below : Below w.heap.size w wr
  xc : wr.rangeAt X 0 args
  vc : wr.cell? ⟨V, 0, none⟩ = some (.map (some M))
  vM : V ≠ M
  lo : w.heap.size ≤ M ∧ M < B ∧ V < B ∧ X < B ∧ X ≠ M ∧ B ≤ wr.heap.size
  mp : ∃ D, MapOf wr M k (retK objs k) g D
  rows : RowsOf wr B b0 (retK objs k) g
/-- What the map tells of z, as a value. -/
def rowV (objs : List GobL) (k : Nat) (g : Int → Value) (z : Int) : Value := if (retK objs k z).isEmpty then nilV else g z
theorem RowsOf.val {w : World} {B b0 k : Nat} {objs : List GobL} {g : Int → Value} (h : RowsOf w B b0 (retK objs k) g) (z : Int) : w.ownsRow B 58 1 (rowV objs k g z) (retK objs k z).length (ptrsV b0 (retK objs k z)) := by
  unfold rowV
  split
  · rename_i e
    have e' : retK objs k z = [] := by simpa using e
    rw [e']
    exact ⟨rfl, .inl ⟨rfl, rfl⟩⟩
  · rename_i e
    exact h.row z (by simpa using e)
theorem MkW.skip {w wr : World} {args : List Value} {X M V B b0 k : Nat} {objs : List GobL} {g : Int → Value} (h : MkW w wr args X M V B b0 objs k g) (hk : k < objs.length) (e : objs[k].id = 0) : MkW w wr args X M V B b0 objs (k + 1) g := by
  refine ⟨h.below, h.xc, h.vc, h.vM, h.lo, ?_, ?_⟩
  · rw [retK_skip hk e]
    obtain ⟨D, hD⟩ := h.mp
    exact ⟨D, hD.more (by omega)⟩
  · rw [retK_skip hk e]
    exact h.rows
theorem MkW.put {w wr W1 w2 w3 : World} {args : List Value} {X M V B b0 k : Nat} {objs : List GobL} {g : Int → Value} {v : Value} {D : DataW Value} (h : MkW w wr args X M V B b0 objs k g) (hk : k < objs.length) (hz : objs[k].id ≠ 0)
    (hb1 : Below wr.heap.size wr W1) (hg2 : W1.grownBy w2 (rowV objs k g objs[k].id).ownBlock) (hown : w2.ownsRow B 58 1 v ((retK objs k objs[k].id).length + 1) (ptrsV b0 (retK objs k objs[k].id) ++ ptrsV b0 [k]))
    (hat : v.ownBlock = (rowV objs k g objs[k].id).ownBlock ∨ v.ownBlock = some W1.heap.size) (hD : MapOf wr M k (retK objs k) g D)
    (ho3 : w3.ownsMap Try.prog 2 RV M (k + 1) (D.put (.int .i64 objs[k].id) (.held v))) (ht : w2.mapTurned w3 M) : ∃ g', MkW w w3 args X M V B b0 objs (k + 1) g' := by
  obtain ⟨l1, l2, l3, l4, l5, l6⟩ := h.lo
  have hrv := h.rows.val objs[k].id
  have hlt : ∀ j, (rowV objs k g objs[k].id).ownBlock = some j → B ≤ j ∧ j < wr.heap.size := fun j hj => World.ownsRow.lt hrv j hj
  have s1 := hb1.size
  have s2 := hg2.size
  have ht3 := ht.grown
  have s3 := ht3.size
  have kp : ∀ j, j < wr.heap.size → (rowV objs k g objs[k].id).ownBlock ≠ some j → j ≠ M → w3.heap[j]? = wr.heap[j]? := fun j hj hne hM => by
    rw [ht3.block j (by omega) (fun e => hM (by cases e; rfl)), hg2.block j (by omega) (fun e => hne e.symm), hb1.block j hj]
  have kpB : ∀ j, j < B → j ≠ M → w3.heap[j]? = wr.heap[j]? := fun j hj hM => kp j (by omega) (fun e => by have := (hlt j e).1; omega) hM
  refine ⟨fun y => if y = objs[k].id then v else g y, ?_, ?_, ?_, h.vM, ⟨l1, l2, l3, l4, l5, by omega⟩, ⟨D.put (.int .i64 objs[k].id) (.held v), ?_⟩, ?_, ?_⟩
  · have hws := h.below.size
    refine ⟨ht3.os.trans (hg2.os.trans (hb1.os.trans h.below.os)), ht3.tape.trans (hg2.tape.trans (hb1.tape.trans h.below.tape)), ht3.output.trans (hg2.output.trans (hb1.output.trans h.below.output)), by omega, fun j hj => ?_⟩
    rw [kpB j (by omega) (by omega)]
    exact h.below.block j hj
  · intro j u hj
    exact (World.cell?_of_block (w := wr) (a := ⟨X, 0 + j, none⟩) (kpB X l4 l5)).trans (h.xc j u hj)
  · exact (World.cell?_of_block (w := wr) (kpB V l3 h.vM)).trans h.vc
  · rw [retK_put hk hz]
    exact hD.put ho3
  · intro y hy
    rw [retK_put hk hz] at hy ⊢
    by_cases e : y = objs[k].id
    · subst e
      simp only [if_true, List.length_append, List.length_singleton, ptrsV_append]
      exact own_kept hown fun j hj => ht3.block j (World.ownsRow.lt hown j hj).2 fun q => by
        have := (World.ownsRow.lt hown j hj).1
        cases q
        omega
    · simp only [if_neg e] at hy ⊢
      refine own_kept (h.rows.row y hy) fun j hj => ?_
      have hj2 := World.ownsRow.lt (h.rows.row y hy) j hj
      refine kp j hj2.2 (fun q => ?_) (by omega)
      unfold rowV at q
      split at q
      · simp [nilV, Value.ownBlock] at q
      · rename_i hne
        exact h.rows.apart y objs[k].id hy (by simpa using hne) e (hj.trans q.symm)
  · intro y y' hy hy' hne
    rw [retK_put hk hz] at hy hy'
    have key : ∀ y, y ≠ objs[k].id → retK objs k y ≠ [] → v.ownBlock ≠ (g y).ownBlock := fun y e hy q => by
      obtain ⟨c, cc, ec⟩ := own_some (h.rows.row y hy) (List.length_pos_iff.2 hy)
      have hj2 := World.ownsRow.lt (h.rows.row y hy) c (by rw [ec]; rfl)
      rcases hat with h1 | h1
      · rw [h1] at q
        unfold rowV at q
        split at q
        · rw [ec] at q; simp [nilV, Value.ownBlock] at q
        · rename_i hne
          exact h.rows.apart objs[k].id y (by simpa using hne) hy (fun q => e q.symm) q
      · rw [h1, ec] at q
        simp only [Value.ownBlock, Option.some.injEq] at q
        omega
    by_cases e : y = objs[k].id
    · have e' : y' ≠ objs[k].id := fun q => hne (e.trans q.symm)
      simp only [if_neg e', if_pos e] at hy' ⊢
      exact key y' e' hy'
    · simp only [if_neg e] at hy ⊢
      by_cases e' : y' = objs[k].id
      · simp only [if_pos e']
        exact fun q => key y e hy q.symm
      · simp only [if_neg e'] at hy' ⊢
        exact h.rows.apart y y' hy hy' hne
end Go.Proofs.Ytedpocgmfpaeeaa
