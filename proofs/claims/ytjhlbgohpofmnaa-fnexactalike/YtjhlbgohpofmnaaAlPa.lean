/- A new pair: into both maps, and to the row's end. -/
import Derived.Test.YtjhlbgohpofmnaaAlK
namespace Go.Proofs.Ytjhlbgohpofmnaa
set_option linter.unusedVariables false
open Go.ChangeShapes Go.WideShapes Go.ChangeAt Go.RowKit Go.Maps

/-- Two blocks alone may have turned, and new ones come. -/
structure Keep2 (M1 M2 : Nat) (a b : World) : Prop where
  os : b.os = a.os
  tape : b.tape = a.tape
  output : b.output = a.output
  size : a.heap.size ≤ b.heap.size
  block : ∀ k, k < a.heap.size → k ≠ M1 → k ≠ M2 → b.heap[k]? = a.heap[k]?
theorem Keep2.start (M1 M2 : Nat) (a : World) : Keep2 M1 M2 a a.drew := ⟨rfl, rfl, rfl, Nat.le_refl _, fun _ _ _ _ => rfl⟩
theorem Keep2.one {M1 M2 : Nat} {a b c : World} (h : Keep2 M1 M2 a b) (hg : b.grownBy c (some M1)) : Keep2 M1 M2 a c :=
  ⟨hg.os.trans h.os, hg.tape.trans h.tape, hg.output.trans h.output, Nat.le_trans h.size hg.size, fun k hk h1 h2 => (hg.block k (Nat.lt_of_lt_of_le hk h.size) (fun e => h1 (by cases e; rfl))).trans (h.block k hk h1 h2)⟩
theorem Keep2.two {M1 M2 : Nat} {a b c : World} (h : Keep2 M1 M2 a b) (hg : b.grownBy c (some M2)) : Keep2 M1 M2 a c :=
  ⟨hg.os.trans h.os, hg.tape.trans h.tape, hg.output.trans h.output, Nat.le_trans h.size hg.size, fun k hk h1 h2 => (hg.block k (Nat.lt_of_lt_of_le hk h.size) (fun e => h2 (by cases e; rfl))).trans (h.block k hk h1 h2)⟩
def Mid1 (M : Nat) (q : Int) (row : List (Int × Int)) (st : Nat) (W : World) : Prop := ∀ w2 : World, w2.heap[M]? = W.heap[M]? → ∃ w3, (Instr.entryStore 40 (.map (some M)) (.int .i64 (st : Int)) (.int .i64 q)).run Try.prog w2 = .ok () w3 ∧ PartMap w3 M row ∧ w2.grownBy w3 (some M)
def Mid2 (M : Nat) (row : List (Int × Int)) (st : Nat) (W : World) : Prop := ∀ w2 : World, w2.heap[M]? = W.heap[M]? → ∃ w3, (Instr.entryStore 41 (.map (some M)) (.int .i64 (st : Int)) (.agg #[])).run Try.prog w2 = .ok () w3 ∧ TakeMap w3 M row ∧ w2.grownBy w3 (some M)
theorem fsts_snoc (row : List (Int × Int)) (p q : Int) : fsts (row ++ [(p, q)]) = fsts row ++ [p] := by simp [fsts]
theorem snds_snoc (row : List (Int × Int)) (p q : Int) : snds (row ++ [(p, q)]) = snds row ++ [q] := by simp [snds]
theorem part_entry {w : World} {M : Nat} {row : List (Int × Int)} {p q : Int} (h : PartMap w M row) (hl : row.length ≤ 1048576) (hp : 0 ≤ p ∧ p ≤ 4000000) (hq : 0 ≤ q ∧ q ≤ 4000000) (hn : p ∉ fsts row) :
    ∃ (v0 : Value) (st : Nat) (w1 : World), (Instr.mapEntry 40 (.map (some M)) (.int .i64 p)).run Try.prog w = .ok (.tuple #[v0, .int .i64 (st : Int)]) w1 ∧ w.grownBy w1 (some M) ∧ Mid1 M q (row ++ [(p, q)]) st w1 := by
  obtain ⟨D, h1, h2⟩ := h
  obtain ⟨v0, st, w1, hr, hg, hm⟩ := entry_store keyI Try.underlying40 zeroI h1 (by unfold maxLen; omega) (keyOfI hp) (.int .i64 q) _ [] (plainElem_int Try.underlying2 (WalkArith.wf_i64 (by omega)))
  refine ⟨v0, st, w1, hr, hg, fun w2 hw2 => ?_⟩
  obtain ⟨w3, r3, o3, g3⟩ := hm w2 hw2
  refine ⟨w3, r3, ⟨_, by simpa using o3, fun z => ?_⟩, g3⟩
  by_cases e : z = p
  · subst e
    rw [has_put_same h1.isMap (k := .int .i64 z) trivial, atKey_put_same h1.isMap (k := .int .i64 z) trivial, partner_snoc hn, if_pos rfl]
    exact ⟨by rw [fsts_snoc]; simp, rfl⟩
  · rw [has_put_other (by simpa using e), atKey_put_other (by simpa using e), (h2 z).1, (h2 z).2, partner_snoc hn, if_neg e]
    exact ⟨by rw [fsts_snoc]; simp [e], rfl⟩
theorem take_entry {w : World} {M : Nat} {row : List (Int × Int)} {p q : Int} (h : TakeMap w M row) (hl : row.length ≤ 1048576) (hq : 0 ≤ q ∧ q ≤ 4000000) :
    ∃ (v0 : Value) (st : Nat) (w1 : World), (Instr.mapEntry 41 (.map (some M)) (.int .i64 q)).run Try.prog w = .ok (.tuple #[v0, .int .i64 (st : Int)]) w1 ∧ w.grownBy w1 (some M) ∧ Mid2 M (row ++ [(p, q)]) st w1 := by
  obtain ⟨D, h1, h2⟩ := h
  obtain ⟨v0, st, w1, hr, hg, hm⟩ := entry_store keyI Try.underlying41 zeroU h1 (by unfold maxLen; omega) (keyOfI hq) (.agg #[]) _ [] unitElem_mk
  refine ⟨v0, st, w1, hr, hg, fun w2 hw2 => ?_⟩
  obtain ⟨w3, r3, o3, g3⟩ := hm w2 hw2
  refine ⟨w3, r3, ⟨_, by simpa using o3, fun z => ?_⟩, g3⟩
  by_cases e : z = q
  · subst e
    rw [has_put_same h1.isMap (k := .int .i64 z) trivial]
    rw [snds_snoc]; simp
  · rw [has_put_other (by simpa using e), h2 z]
    rw [snds_snoc]; simp [e]
/-- The new pair, step by step. -/
def meetR (W9 : World) (M1 M2 : Nat) (row row' : List (Int × Int)) (q : Int) : Nat → (Nat → Value) → World → Prop
  | 0, _, W => Keep2 M1 M2 W9 W ∧ PartMap W M1 row ∧ TakeMap W M2 row
  | 1, vs, W => Keep2 M1 M2 W9 W ∧ (∃ (v0 : Value) (st : Nat), vs 12 = .tuple #[v0, .int .i64 (st : Int)] ∧ Mid1 M1 q row' st W) ∧ TakeMap W M2 row
  | 2, vs, W => Keep2 M1 M2 W9 W ∧ (∃ st : Nat, vs 13 = .int .i64 (st : Int) ∧ Mid1 M1 q row' st W) ∧ TakeMap W M2 row
  | 3, _, W => Keep2 M1 M2 W9 W ∧ PartMap W M1 row' ∧ TakeMap W M2 row
  | 4, vs, W => Keep2 M1 M2 W9 W ∧ PartMap W M1 row' ∧ ∃ (v0 : Value) (st : Nat), vs 15 = .tuple #[v0, .int .i64 (st : Int)] ∧ Mid2 M2 row' st W
  | _, vs, W => Keep2 M1 M2 W9 W ∧ PartMap W M1 row' ∧ ∃ st : Nat, vs 16 = .int .i64 (st : Int) ∧ Mid2 M2 row' st W
theorem meetR_keep {W9 : World} {M1 M2 : Nat} {row row' : List (Int × Int)} {q : Int} {k : Nat} {vs : Nat → Value} {W : World} (h : meetR W9 M1 M2 row row' q k vs W) : Keep2 M1 M2 W9 W := by
  match k, h with
  | 0, h => exact h.1
  | 1, h => exact h.1
  | 2, h => exact h.1
  | 3, h => exact h.1
  | 4, h => exact h.1
  | _ + 5, h => exact h.1
theorem meetR_loc (W9 : World) (M1 M2 : Nat) (row row' : List (Int × Int)) (q : Int) : ∀ k vs i v w, i ∉ [12, 13, 14, 15, 16] → meetR W9 M1 M2 row row' q k vs w → meetR W9 M1 M2 row row' q k (upd vs i v) w := by
  intro k vs i v w hi h
  have e : ∀ j, j ∈ [12, 13, 14, 15, 16] → upd vs i v j = vs j := fun j hj => by
    unfold upd
    rw [if_neg]
    intro q; subst q; exact hi hj
  match k, h with
  | 0, h => exact h
  | 1, h => show _ ∧ (∃ (v0 : Value) (st : Nat), upd vs i v 12 = _ ∧ _) ∧ _; rw [e 12 (by simp)]; exact h
  | 2, h => show _ ∧ (∃ st : Nat, upd vs i v 13 = _ ∧ _) ∧ _; rw [e 13 (by simp)]; exact h
  | 3, h => exact h
  | 4, h => show _ ∧ _ ∧ ∃ (v0 : Value) (st : Nat), upd vs i v 15 = _ ∧ _; rw [e 15 (by simp)]; exact h
  | _ + 5, h => show _ ∧ _ ∧ ∃ st : Nat, upd vs i v 16 = _ ∧ _; rw [e 16 (by simp)]; exact h
theorem Keep2.cells {w W9 W : World} {ua ub : Value} {P M1 M2 : Nat} {rv : Value} {row : List (Int × Int)} (hk : Keep2 M1 M2 W9 W) (h : PairW w W9 ua ub P M1 M2 rv row) (j : Nat) : W.cell? ⟨P, j, none⟩ = W9.cell? ⟨P, j, none⟩ ∧ W.frozen? ⟨P, j, none⟩ = W9.frozen? ⟨P, j, none⟩ :=
  have e := hk.block P h.hi h.ne.1 h.ne.2.1
  ⟨World.cell?_of_block (w := W9) e, World.frozen?_of_block (w := W9) e⟩
theorem Keep2.owned {w W9 W : World} {ua ub : Value} {P M1 M2 : Nat} {rv : Value} {row : List (Int × Int)} (hk : Keep2 M1 M2 W9 W) (h : PairW w W9 ua ub P M1 M2 rv row) (o : Obj) : (W.alloc o).ownsRow w.heap.size 48 2 rv row.length (rowV row) :=
  own_alloc (own_kept h.own (fun g hg => hk.block g (own_lt h.own hg).2 (fun e => h.ap.2.1 (by rw [hg, e])) (fun e => h.ap.2.2 (by rw [hg, e])))) o
theorem grown_set4 (w : World) (P k : Nat) (v : Value) : w.grownBy (w.setCell ⟨P, k, none⟩ v) (some P) :=
  ⟨rfl, rfl, rfl, by simp [World.setCell], fun j hj hne => Below.heap_setCell _ _ _ _ (fun e => hne (by rw [e]))⟩
theorem PairW.room {w W9 W3 W4 : World} {ua ub : Value} {P M1 M2 : Nat} {rv : Value} {row : List (Int × Int)} {o : Obj} (h : PairW w W9 ua ub P M1 M2 rv row) (hk : Keep2 M1 M2 W9 W3) (hg : (W3.alloc o).grownBy W4 rv.ownBlock) : ∀ j, W4.cell? ⟨P, j, none⟩ = W9.cell? ⟨P, j, none⟩ ∧ W4.frozen? ⟨P, j, none⟩ = W9.frozen? ⟨P, j, none⟩ := fun j => by
  have hs := hk.size
  have hP := h.hi
  have e : W4.heap[P]? = W9.heap[P]? := by
    rw [hg.block P (by simp; omega) (fun e => h.ap.1 e.symm), Below.heap_alloc _ _ _ (by omega), hk.block P h.hi h.ne.1 h.ne.2.1]
  exact ⟨World.cell?_of_block (w := W9) e, World.frozen?_of_block (w := W9) e⟩
theorem PairW.meet {w W9 W3 W4 : World} {ua ub : Value} {P M1 M2 : Nat} {rv rv' : Value} {row : List (Int × Int)} {p q : Int} {o : Obj} (h : PairW w W9 ua ub P M1 M2 rv row) (hk : Keep2 M1 M2 W9 W3) (hp : PartMap W3 M1 (row ++ [(p, q)])) (ht : TakeMap W3 M2 (row ++ [(p, q)])) (hg : (W3.alloc o).grownBy W4 rv.ownBlock)
    (hown : W4.ownsRow w.heap.size 48 2 rv' (row.length + 1) (rowV row ++ [.int .i64 p, .int .i64 q])) (hat : rv'.ownBlock = rv.ownBlock ∨ rv'.ownBlock = some (W3.alloc o).heap.size) : PairW w (W4.setCell ⟨P, 4, none⟩ rv') ua ub P M1 M2 rv' (row ++ [(p, q)]) := by
  obtain ⟨l1, l2, l3⟩ := h.lo
  obtain ⟨n1, n2, n3⟩ := h.ne
  obtain ⟨a1, a2, a3⟩ := h.ap
  have hs := hk.size
  have hs4 := hg.size
  have hP := h.hi
  have s0 := h.hb.size
  have m1 := hp.lt
  have m2 := ht.lt
  simp only [World.size_alloc] at hs4
  have hr := h.room hk hg
  have gset := grown_set4 W4 P 4 rv'
  have out : ∀ j, j < 4 → (W4.setCell ⟨P, 4, none⟩ rv').cell? ⟨P, j, none⟩ = W9.cell? ⟨P, j, none⟩ := fun j hj => by
    have e := World.cell?_setCells_out P [rv'] 4 W4 ⟨P, j, none⟩ (fun _ _ => .inl hj)
    exact Eq.trans e (hr j).1
  have nb : rv'.ownBlock ≠ some P ∧ rv'.ownBlock ≠ some M1 ∧ rv'.ownBlock ≠ some M2 := by
    rcases hat with e | e
    · rw [e]; exact ⟨a1, a2, a3⟩
    · rw [e]
      simp only [World.size_alloc, ne_eq, Option.some.injEq]
      refine ⟨?_, ?_, ?_⟩ <;> omega
  have hbel : Below w.heap.size w W3 := by
    refine h.hb.trans ⟨hk.os, hk.tape, hk.output, hk.size, fun k hk2 => hk.block k (by omega) (by omega) (by omega)⟩
  refine ⟨?_, (out 0 (by omega)).trans h.p0, (out 1 (by omega)).trans h.p1, (out 2 (by omega)).trans h.p2, (out 3 (by omega)).trans h.p3, ?_, ?_, ?_, ?_, ?_, ⟨l1, l2, l3⟩, ?_, ⟨n1, n2, n3⟩, nb⟩
  · have b2 := hbel.alloc hbel.size o
    have b3 := b2.grown hg (by simp; omega) (fun k e => (own_lt h.own e).1)
    exact b3.setCell (p := ⟨P, 4, none⟩) l1 _
  · exact World.cell?_setCells_in P [rv'] 4 W4 (fun j hj => by
      have hj : j = 0 := by simpa using hj
      subst hj
      show (W4.cell? ⟨P, 4, none⟩).isSome = true
      rw [(hr 4).1, h.p4]; rfl) 0 (by simp)
  · rw [show (W4.setCell ⟨P, 4, none⟩ rv').frozen? ⟨P, 4, none⟩ = W4.frozen? ⟨P, 4, none⟩ from World.frozen?_setCells P [rv'] 4 W4 _, (hr 4).2]; exact h.pf
  · have := own_kept hown (w' := W4.setCell ⟨P, 4, none⟩ rv') (fun g e => gset.block g (own_lt hown e).2 (fun q => nb.1 (by rw [e, q])))
    rw [rowV_snoc]
    simpa using this
  · exact ((hp.kept (World.grownBy_alloc W3 o none) (by simp)).kept hg (fun e => a2 e.symm)).kept gset (fun e => n1 (by cases e; rfl))
  · exact ((ht.kept (World.grownBy_alloc W3 o none) (by simp)).kept hg (fun e => a3 e.symm)).kept gset (fun e => n2 (by cases e; rfl))
  · rw [show (W4.setCell ⟨P, 4, none⟩ rv').heap.size = W4.heap.size by simp [World.setCell]]
    omega
theorem elemP : ∃ i, Try.prog.info? 48 = some i ∧ i.zero = some (.agg #[.int .i64 0, .int .i64 0]) ∧ i.size = 2 ∧ i.bytes = 16 := by
  obtain ⟨i0, hi0⟩ : ∃ i, Try.prog.info? 48 = some i := Option.isSome_iff_exists.1 (by kernel_rfl)
  have hz : (Try.prog.info? 48).bind (·.zero) = some (.agg #[.int .i64 0, .int .i64 0]) := by kernel_rfl
  refine ⟨i0, hi0, ?_, ?_, ?_⟩
  · rw [hi0] at hz; exact hz
  · have : (Try.prog.info? 48).map (·.size) = some 2 := by kernel_rfl
    rw [hi0] at this; exact Option.some.inj this
  · have : (Try.prog.info? 48).map (·.bytes) = some 16 := by kernel_rfl
    rw [hi0] at this; exact Option.some.inj this
end Go.Proofs.Ytjhlbgohpofmnaa
