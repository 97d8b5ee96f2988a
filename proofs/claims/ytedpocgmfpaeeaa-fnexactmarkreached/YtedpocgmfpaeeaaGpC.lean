/- The function that takes from the map. -/
import Derived.Test.YtedpocgmfpaeeaaGpM
namespace Go.Proofs.Ytedpocgmfpaeeaa
set_option linter.unusedVariables false
open Go.ChangeShapes Go.WideShapes Go.ChangeAt Go.RowKit Go.Maps

theorem own_slice {w : World} {base : Nat} {e : TypeId} {size : Nat} {v : Value} {n : Nat} {xs : List Value} (h : w.ownsRow base e size v n xs) : ∃ a c, v = .slice a n c := by
  rcases h.2 with ⟨rfl, rfl⟩ | ⟨g, cap, cur, rfl, _⟩
  · exact ⟨_, _, rfl⟩
  · exact ⟨_, _, rfl⟩
theorem grown_set (w : World) (R : Nat) (v : Value) : w.grownBy (w.setCell ⟨R, 0, none⟩ v) (some R) :=
  ⟨rfl, rfl, rfl, by simp [World.setCell], fun k hk hne => Below.heap_setCell _ _ _ _ (fun e => hne (by rw [e]))⟩
theorem heap_set_one {w : World} {L : Nat} {u : Value} {t : TypeId} (v : Value) (h : w.heap[L]? = some (.cells #[u] t (0, 0))) : (w.setCell ⟨L, 0, none⟩ v).heap[L]? = some (.cells #[v] t (0, 0)) := by
  have hl : L < w.heap.size := (Array.getElem?_eq_some_iff.1 h).1
  have h2 := (Array.getElem?_eq_some_iff.1 h).2
  simp [World.setCell, hl, h2, Array.getElem_modify]
/-- The rows that were made ahead of the search. -/
structure GrW (wB : World) (B M L b0 : Nat) (objs : List GobL) (g : Int → Value) : Prop where
  rows : ∀ z, retL objs [] z ≠ [] → wB.ownsRow B 58 1 (g z) (retL objs [] z).length (ptrsV b0 (retL objs [] z))
  lL : ∃ u, wB.heap[L]? = some (.cells #[u] 23 (0, 0))
  mM : ∃ es c, wB.heap[M]? = some (.map es c)
theorem retL_old {objs : List GobL} {lv : List Int} {z : Int} (h : retL objs lv z ≠ []) : retL objs lv z = retL objs [] z := by
  unfold retL at h ⊢
  split at h
  · rename_i hc
    rw [if_pos hc, if_pos ⟨hc.1, by simp⟩]
  · exact absurd rfl h
theorem GrW.src {wB wr : World} {B V M L b0 : Nat} {objs : List GobL} {g : Int → Value} {lv : List Int} {lvv : Value} (hG : GrW wB B M L b0 objs g) (h : CoW wB wr V M L objs g lv lvv) (z : Int) {rs : List Nat} (hrs : rs ≠ []) (e : retL objs [] z = rs) : SrcAt wr 1 (g z) rs.length (ptrsV b0 rs) := by
  subst e
  have ho := hG.rows z hrs
  rcases ho.2 with ⟨_, h0⟩ | ⟨k, cap, cur, e, hB, hk, h1, h2, h3, h4⟩
  · exact absurd (List.eq_nil_of_length_eq_zero h0) hrs
  · have hlt : k < wB.heap.size := (Array.getElem?_eq_some_iff.1 hk).1
    have hkp : wr.heap[k]? = wB.heap[k]? := h.old k hlt (fun q => by
      obtain ⟨es, c, hm⟩ := hG.mM
      rw [← q, hk] at hm; cases hm) (fun q => by
      obtain ⟨u, hm⟩ := hG.lL
      rw [← q, hk] at hm; cases hm)
    rw [e]
    refine .inr ⟨⟨k, 0, none⟩, cap, rfl, ptrsV_length _ _, fun j u hj => ?_⟩
    have := World.ownsRow.cells ho (g := k) (by rw [e]; rfl) j u hj
    exact (World.cell?_of_block (w := wB) (a := (⟨k, 0, none⟩ : Addr).add j) (by rw [Addr.add_lit]; exact hkp)).trans this
theorem CoW.mid {wB wr w2 : World} {V M L : Nat} {objs : List GobL} {g : Int → Value} {lv : List Int} {lvv lvv' : Value} {o : Obj} (h : CoW wB wr V M L objs g lv lvv) (hg2 : (wr.alloc o).grownBy w2 lvv.ownBlock) : (w2.setCell ⟨L, 0, none⟩ lvv').heap[M]? = wr.heap[M]? := by
  have h0 := h.siz
  have h1 := h.mlt
  have ho : ∀ k, lvv.ownBlock = some k → wB.heap.size ≤ k := fun k hk => (World.ownsRow.lt h.lo k hk).1
  rw [Below.heap_setCell _ _ _ _ (fun e => h.ne.2.2 (by exact e)), hg2.block M (by simp; omega) (fun e => by have := ho M e.symm; omega), Below.heap_alloc _ _ _ (by omega)]
theorem CoW.mid2 {wB wr w2 : World} {V M L : Nat} {objs : List GobL} {g : Int → Value} {lv : List Int} {lvv : Value} {o : Obj} (h : CoW wB wr V M L objs g lv lvv) (hg2 : (wr.alloc o).grownBy w2 lvv.ownBlock) : w2.cell? ⟨L, 0, none⟩ = some lvv ∧ w2.frozen? ⟨L, 0, none⟩ = false ∧ ∀ lvv', (w2.setCell ⟨L, 0, none⟩ lvv').cell? ⟨V, 0, none⟩ = some (.map (some M)) := by
  have h0 := h.siz
  have h1 := h.mlt
  have h1' := h.llt
  have h1v := h.vlt
  have ho : ∀ k, lvv.ownBlock = some k → wB.heap.size ≤ k := fun k hk => (World.ownsRow.lt h.lo k hk).1
  have kp : ∀ k, k < wB.heap.size → w2.heap[k]? = wr.heap[k]? := fun k hk => by
    rw [hg2.block k (by simp; omega) (fun e => by have := ho k e.symm; omega), Below.heap_alloc _ _ _ (by omega)]
  refine ⟨(World.cell?_of_block (w := wr) (kp L h1')).trans h.lc, (World.frozen?_of_block (w := wr) (kp L h1')).trans h.lfz, fun lvv' => ?_⟩
  rw [World.cell?_setCell_far _ _ _ _ (fun e => h.ne.2.1 (by exact e.symm))]
  exact (World.cell?_of_block (w := wr) (kp V h1v)).trans h.vcell
theorem CoW.come {wB wr w2 w3 : World} {V M L : Nat} {objs : List GobL} {g : Int → Value} {lv : List Int} {lvv lvv' : Value} {z : Int} {o : Obj} {D : DataW Value} (h : CoW wB wr V M L objs g lv lvv) (hn : retL objs lv z ≠ []) (hg2 : (wr.alloc o).grownBy w2 lvv.ownBlock)
    (hown : w2.ownsRow wB.heap.size 2 1 lvv' (lv.length + 1) (intsV lv ++ [.int .i64 z])) (hat : lvv'.ownBlock = lvv.ownBlock ∨ lvv'.ownBlock = some (wr.alloc o).heap.size) (hD : MapOf wr M objs.length (retL objs lv) g D)
    (ho : w3.ownsMap Try.prog 2 RV M objs.length (D.del (.int .i64 z))) (ht : (w2.setCell ⟨L, 0, none⟩ lvv').mapTurned w3 M) :
    CoW wB w3 V M L objs g (comeG objs lv z) lvv' ∧ (∀ (k : Nat) cur fz, wr.heap[k]? = some (Obj.cells cur 58 fz) → w3.heap[k]? = wr.heap[k]?) ∧ wr.heap.size ≤ w3.heap.size := by
  have h0 := h.siz
  have h1 := h.mlt
  have h1' := h.llt
  have hl : ∀ k, lvv.ownBlock = some k → wB.heap.size ≤ k ∧ k < wr.heap.size := fun k hk => World.ownsRow.lt h.lo k hk
  have s2 := hg2.size
  simp only [World.size_alloc] at s2
  have ht3 := ht.grown
  have s3 : w2.heap.size ≤ w3.heap.size := by have := ht3.size; simpa [World.setCell] using this
  have hl' : ∀ k, lvv'.ownBlock = some k → wB.heap.size ≤ k ∧ k < w2.heap.size := fun k hk => World.ownsRow.lt hown k hk
  have kp2 : ∀ k, k < wr.heap.size → lvv.ownBlock ≠ some k → w2.heap[k]? = wr.heap[k]? := fun k hk hne => by
    rw [hg2.block k (by simp; omega) (fun e => hne e.symm), Below.heap_alloc _ _ _ hk]
  have kp3 : ∀ k, k < w2.heap.size → k ≠ M → k ≠ L → w3.heap[k]? = w2.heap[k]? := fun k hk hM hL => by
    rw [ht3.block k (by simpa [World.setCell] using hk) (fun e => hM (by cases e; rfl)), Below.heap_setCell _ _ _ _ (fun e => hL e)]
  have kp : ∀ k, k < wr.heap.size → k ≠ M → k ≠ L → lvv.ownBlock ≠ some k → w3.heap[k]? = wr.heap[k]? := fun k hk hM hL hne => (kp3 k (by omega) hM hL).trans (kp2 k hk hne)
  obtain ⟨u, hu⟩ := h.lb
  have hL2 : w2.heap[L]? = some (.cells #[u] 23 (0, 0)) := (kp2 L (by omega) (fun e => by have := (hl L e).1; omega)).trans hu
  have hL3 : w3.heap[L]? = some (.cells #[lvv'] 23 (0, 0)) := by
    rw [ht3.block L (by simp [World.setCell]; omega) (fun e => h.ne.2.2 (by cases e; rfl))]
    exact heap_set_one lvv' hL2
  have ec : comeG objs lv z = lv ++ [z] := by unfold comeG; rw [if_neg hn]
  refine ⟨⟨?_, ?_, ?_, by omega, fun k hk hM hL => (kp k (by omega) hM hL (fun e => by have := (hl k e).1; omega)).trans (h.old k hk hM hL), h.vlt, h.llt, h.mlt, h.ne, h.vc, ⟨_, hL3⟩, ?_, ?_, ?_⟩, ?_, by omega⟩
  · exact ht3.os.trans (hg2.os.trans h.os)
  · exact ht3.tape.trans (hg2.tape.trans h.tape)
  · exact ht3.output.trans (hg2.output.trans h.output)
  · simp [World.cell?, hL3]
  · rw [ec, List.length_append, intsV_append]
    exact own_kept hown fun k hk => kp3 k (hl' k hk).2 (fun e => by have := (hl' k hk).1; omega) (fun e => by have := (hl' k hk).1; omega)
  · refine ⟨D.del (.int .i64 z), ?_⟩
    rw [← retL_del objs lv z hn]
    exact hD.del ho
  · intro k cur fz hk
    have hlt : k < wr.heap.size := (Array.getElem?_eq_some_iff.1 hk).1
    refine kp k hlt (fun e => ?_) (fun e => ?_) (fun e => ?_)
    · obtain ⟨es, c, hm, _⟩ := hD.own
      rw [← e, hk] at hm; cases hm
    · rw [← e, hk] at hu; cases hu
    · rcases h.lo.2 with ⟨q, _⟩ | ⟨k', cap, cur', q, _, hm, _⟩
      · rw [q] at e; simp [Value.ownBlock] at e
      · rw [q] at e
        simp only [Value.ownBlock, Option.some.injEq] at e
        rw [e, hk] at hm; cases hm

set_option maxRecDepth 100000 in
set_option maxHeartbeats 1000000 in
theorem come_calls (wB W : World) (B V M L b0 : Nat) (objs : List GobL) (g : Int → Value) (lv : List Int) (lvv : Value) (z : Int) (hz : -9223372036854775808 ≤ z ∧ z ≤ 9223372036854775807) (hG : GrW wB B M L b0 objs g) (h : CoW wB W V M L objs g lv lvv) (hl : lv.length ≤ 8000) :
    Calls Try.prog 28 #[.int .i64 z, .pointer (some ⟨V, 0, none⟩), .pointer (some ⟨L, 0, none⟩)] W fun e w' => ∃ v, e = .returned v ∧ SrcAt w' 1 v (retL objs lv z).length (ptrsV b0 (retL objs lv z)) ∧ (∃ lvv', CoW wB w' V M L objs g (comeG objs lv z) lvv') ∧ (∀ (k : Nat) cur fz, W.heap[k]? = some (Obj.cells cur 58 fz) → w'.heap[k]? = W.heap[k]?) ∧ W.heap.size ≤ w'.heap.size := by
  obtain ⟨D, hD⟩ := h.mp
  have hown := hD.own
  have hhas := hD.has z
  have hat := hD.at_ z
  have hkey : keyOf Try.prog 2 (.int .i64 z) = some (.int .i64 z) := keyOf_int_mk Try.underlying2 (WalkArith.wf_i64 (by omega))
  obtain ⟨i9, hi9, hz9, hs9, hb9⟩ := info_parts (show (Try.prog.info? 2).map (fun i => (i.zero, i.size, i.bytes)) = some (some (.int .i64 0), 1, 8) by kernel_rfl)
  have hc := h.vcell
  have hlc := h.lc
  have hlf := h.lfz
  have hH : Hid (CoW wB W V M L objs g lv lvv) := h
  have hDH : Hid (MapOf W M objs.length (retL objs lv) g D) := hD
  have hGH : Hid (GrW wB B M L b0 objs g) := hG
  have hlo := h.lo
  have hsz := h.siz
  clear h hD hG
  by_cases hr : retL objs lv z = []
  · rw [hr] at hhas hat
    simp only [List.isEmpty_nil, Bool.not_true, if_true] at hhas hat
    go_enter Try.func28, Try.ntmps28
    go_wp2_with (first
      | (at_lookup; refine wpList_lookup_own_ok _ rfl _ _ 57 rfl 2 59 keyI Try.underlying57 RV (zeroP _) (.held nilV) [] rfl M objs.length D rfl hown _ _ rfl hkey ?_; intro v ps hv; rw [hhas]; rw [hat] at hv; obtain rfl : v = nilV := (by have hv' := hv; simp only [RV, Option.some.injEq, Prod.mk.injEq, DataW.held.injEq] at hv'; exact hv'.1); clear hv)
      | go_in)
    go_ret
    exact ⟨nilV, rfl, by rw [hr]; exact .inl ⟨rfl, rfl, rfl⟩, ⟨lvv, by unfold comeG; rw [if_pos hr]; exact hH.out⟩, fun _ _ _ _ => rfl, Nat.le_refl _⟩
  · have hre : (retL objs lv z).isEmpty = false := by simpa using hr
    rw [hre] at hhas hat
    simp only [Bool.not_false, Bool.false_eq_true, if_false] at hhas hat
    have hloA : Hid ((W.alloc (.cells #[.int .i64 z] 2)).ownsRow wB.heap.size 2 1 lvv lv.length (intsV lv)) := own_kept hlo fun k hk => Below.heap_alloc _ _ _ (World.ownsRow.lt hlo k hk).2
    have hsrcA : Hid (SrcAt (W.alloc (.cells #[.int .i64 z] 2)) 1 (.slice (some ⟨W.heap.size, 0, none⟩) 1 1) 1 [.int .i64 z]) := .inr ⟨⟨W.heap.size, 0, none⟩, 1, rfl, rfl, fun j u hj => by
      have hj0 : j = 0 := by have := (List.getElem?_eq_some_iff.1 hj).1; simp at this; omega
      subst hj0
      simp at hj
      subst hj
      rw [Addr.add_lit]
      exact (rangeAt_heap (heap_alloc_new W (.cells #[.int .i64 z] 2))) 0 _ rfl⟩
    clear hlo
    go_enter Try.func28, Try.ntmps28
    go_wp2_with (first
      | (at_lookup; refine wpList_lookup_own_ok _ rfl _ _ 57 rfl 2 59 keyI Try.underlying57 RV (zeroP _) (.held nilV) [] rfl M objs.length D rfl hown _ _ rfl hkey ?_; intro v ps hv; rw [hhas]; rw [hat] at hv; obtain rfl : v = g z := (by have hv' := hv; simp only [RV, Option.some.injEq, Prod.mk.injEq, DataW.held.injEq] at hv'; exact hv'.1); clear hv)
      | (refine wpList_append_src rfl (.tmp 14) (.tmp 16) 23 rfl wB.heap.size 2 i9 (.int .i64 0) 1 8 Try.underlying23 hi9 hz9 hs9 hb9 rfl (by omega) lvv lv.length (intsV lv) rfl hloA.out _ 1 [.int .i64 z] rfl hsrcA.out (by simp [Value.oneCell']) (by unfold maxLen; omega) (by omega) (by simp; omega) (fun lvv' w2 hown2 hgrow2 hat2 => ?_); obtain ⟨la, lc', rfl⟩ := own_slice hown2; obtain ⟨hlc2, hlf2, hvc2⟩ := hH.out.mid2 hgrow2; have hvc3 := hvc2 (.slice la (lv.length + 1) lc'); clear hvc2; have hown3 : Hid ((w2.setCell ⟨L, 0, none⟩ (.slice la (lv.length + 1) lc')).ownsMap Try.prog 2 RV M objs.length D) := (hDH.out.kept (hH.out.mid hgrow2)).own)
      | (at_delete; refine wpList_delete_own _ rfl _ _ 57 2 rfl 59 keyI Try.underlying57 RV M objs.length D rfl hown3.out _ _ rfl hkey ?_; intro w3 hown4 hturn)
      | go_in)
    go_ret
    obtain ⟨h1, h2, h3⟩ := hH.out.come hr hgrow2 hown2 hat2 hDH.out hown4 hturn
    exact ⟨g z, rfl, hGH.out.src h1 z hr (retL_old hr).symm, ⟨_, h1⟩, h2, h3⟩
end Go.Proofs.Ytedpocgmfpaeeaa
