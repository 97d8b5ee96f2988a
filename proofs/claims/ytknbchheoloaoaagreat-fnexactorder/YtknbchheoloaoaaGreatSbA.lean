/- The specification's Order: what lies in memory on the way. -/
import Derived.Test.YtknbchheoloaoaaGreatSaI
import Derived.Test.YtknbchheoloaoaaGreatSoP
import Derived.Sort.Row
namespace Go.Proofs.YtknbchheoloaoaaGreat
set_option linter.unusedVariables false
open Go.ChangeShapes Go.WideShapes Go.ChangeAt Go.RowKit
theorem heap_set_same {w : World} {b : Nat} {c : Array Value} {t : TypeId} {f : Nat × Nat} (h : w.heap[b]? = some (.cells c t f)) (j : Nat) (v : Value) : (w.setCell ⟨b, j, none⟩ v).heap[b]? = some (.cells (c.setIfInBounds j v) t f) := by
 rw [Go.Sort.setCell_eq]
 simp [Go.Sort.mapBlock, Array.getElem?_modify, h, Go.Sort.onCells]
theorem heap_set_other (w : World) (b j : Nat) (v : Value) {k : Nat} (hk : k ≠ b) : (w.setCell ⟨b, j, none⟩ v).heap[k]? = w.heap[k]? := by
 rw [Go.Sort.setCell_eq]
 simp [Go.Sort.mapBlock, Array.getElem?_modify, Ne.symm hk]
theorem heap_set_size (w : World) (b j : Nat) (v : Value) : (w.setCell ⟨b, j, none⟩ v).heap.size = w.heap.size := by
 rw [Go.Sort.setCell_eq]
 simp [Go.Sort.mapBlock]
theorem heap_lt {w : World} {b : Nat} {o : Obj} (h : w.heap[b]? = some o) : b < w.heap.size := (Array.getElem?_eq_some_iff.1 h).1
theorem cell_of_heap {w : World} {b : Nat} {c : Array Value} {t : TypeId} {f : Nat × Nat} (h : w.heap[b]? = some (.cells c t f)) {j : Nat} {v : Value} (hj : c[j]? = some v) : w.cell? ⟨b, j, none⟩ = some v := by
 simp [World.cell?, h, hj]
theorem frozen_of_heap {w : World} {b : Nat} {c : Array Value} {t : TypeId} (h : w.heap[b]? = some (.cells c t (0, 0))) (j : Nat) : w.frozen? ⟨b, j, none⟩ = false := by
 simp [World.frozen?, h]
theorem own_tag {w : World} {base : Nat} {e : TypeId} {size : Nat} {v : Value} {n : Nat} {xs : List Value} (h : w.ownsRow base e size v n xs) {g : Nat} (hg : v.ownBlock = some g) : ∃ c, w.heap[g]? = some (.cells c e (0, 0)) := by
 rcases h.2 with ⟨rfl, _⟩ | ⟨g', cap, cur, rfl, _, hh, _⟩
 ·cases hg
 ·cases hg; exact ⟨cur, hh⟩
theorem stAt_keep {w w' : World} {g : Nat} {u0 u1 u2 u3 u4 : Value} {us1 us4 : List Value} {s : S11} (h : StAt 0 w g u0 u1 u2 u3 u4 us1 us4 s) (hsz : w.heap.size ≤ w'.heap.size)
  (hk : ∀ k, k < w.heap.size → w'.heap[k]? = w.heap[k]? ∨ ∃ c t f, w.heap[k]? = some (.cells c t f) ∧ t ≠ 2 ∧ t ≠ 25 ∧ (c.size < 5 ∨ ∃ κ z, c[0]? = some (.int κ z))) : StAt 0 w' g u0 u1 u2 u3 u4 us1 us4 s := by
 have hg : w'.heap[g]? = w.heap[g]? := by
  rcases hk g h.hi with e | ⟨c, t, f, e, _, _, hc⟩
  ·exact e
  ·exfalso
   have h0 := h.row 0 u0 rfl
   have h4 := h.row 4 u4 rfl
   simp [World.cell?, e] at h0 h4
   rcases hc with hc | ⟨κ, z, hc⟩
   ·rw [Array.getElem?_eq_none (by omega)] at h4; cases h4
   ·have hr : RowD.held 0 w ⟨2, u0, intsV s.pcs⟩ := h.held _ (by simp [stRows])
    obtain ⟨a, cc, e0⟩ := own_form hr
    rw [hc] at h0
    have := Option.some.inj h0
    have e1 : u0 = .slice a (intsV s.pcs).length cc := e0
    rw [e1] at this; cases this
 refine ⟨h.lo, Nat.lt_of_lt_of_le h.hi hsz, fun j v hj => (World.cell?_of_block (w := w) (a := ⟨g, 0 + j, none⟩) hg).trans (h.row j v hj), h.l1, h.l4, fun r hr => ?_⟩
 have hrh := h.held r hr
 refine own_kept hrh fun q hq => ?_
 have hlt := (RowD.held.lt hrh hq).2
 rcases hk q hlt with e | ⟨c, t, f, e, ht2, htI, _⟩
 ·exact e
 ·exfalso
  obtain ⟨c', e'⟩ := own_tag hrh hq
  rw [e] at e'
  have hty : t = r.e := by injection e' with e'; injection e'
  have hre : r.e = 2 ∨ r.e = 25 := by
   have hm := hr
   unfold stRows at hm
   rcases List.mem_append.1 hm with hm | hm
   ·simp at hm
    rcases hm with rfl | rfl | rfl | rfl | rfl <;> simp
   ·refine .inl ?_
    have key : ∀ (us : List Value) (rows : List (List Int)), ∀ r ∈ rowsD us rows, r.e = 2 := fun us rows r hr => by
     unfold rowsD at hr
     obtain ⟨i, hi, rfl⟩ := List.mem_iff_getElem.1 hr
     simp
    rcases List.mem_append.1 hm with hm | hm
    ·exact key _ _ _ hm
    ·exact key _ _ _ hm
  rcases hre with hre | hre
  ·exact ht2 (hty.trans hre)
  ·exact htI (hty.trans hre)
structure OrW (w wr : World) (x : LitL) (ta : Option Addr) (tc : Nat) (v1 v2 : Value) (ds : List DoneL) (rs : List RaceL) : Prop where
 hb : Below w.heap.size w wr
 box : wr.heap[w.heap.size]? = some (.cells #[.int .i64 x.vars, .int .i64 x.vol, .int .i64 x.locks, .slice ta x.thr.length tc] 34)
 res : wr.heap[w.heap.size + 1]? = some (.cells #[.slice none 0 0, .slice none 0 0] 30)
 out : wr.heap[w.heap.size + 2]? = some (.cells #[v1, v2] 30)
 acts : wr.ownsRow (w.heap.size + 3) 53 2 v1 ds.length (doneV ds)
 races : RacesAt 0 wr v2 rs
 nn : ds = [] → v1.ownBlock = none
theorem OrW.on {w wr w' : World} {x : LitL} {ta : Option Addr} {tc : Nat} {v1 v2 : Value} {ds : List DoneL} {rs : List RaceL} (h : OrW w wr x ta tc v1 v2 ds rs) (hb : Below wr.heap.size wr w') : OrW w w' x ta tc v1 v2 ds rs :=
 ⟨below_on h.hb hb, (hb.block _ (heap_lt h.box)).trans h.box, (hb.block _ (heap_lt h.res)).trans h.res, (hb.block _ (heap_lt h.out)).trans h.out, own_below h.acts hb (fun g hg => (World.ownsRow.lt h.acts g hg).2), h.races.below hb, h.nn⟩
theorem OrW.lit {w wr : World} {x : LitL} {ta : Option Addr} {tc : Nat} {v1 v2 : Value} {ds : List DoneL} {rs : List RaceL} (h : OrW w wr x ta tc v1 v2 ds rs) : wr.cell? ⟨w.heap.size, 0, none⟩ = some (.int .i64 x.vars) ∧ wr.cell? ⟨w.heap.size, 1, none⟩ = some (.int .i64 x.vol) ∧ wr.cell? ⟨w.heap.size, 2, none⟩ = some (.int .i64 x.locks) ∧ wr.cell? ⟨w.heap.size, 3, none⟩ = some (.slice ta x.thr.length tc) :=
 ⟨cell_of_heap h.box rfl, cell_of_heap h.box rfl, cell_of_heap h.box rfl, cell_of_heap h.box rfl⟩
theorem OrW.o0 {w wr : World} {x : LitL} {ta : Option Addr} {tc : Nat} {v1 v2 : Value} {ds : List DoneL} {rs : List RaceL} (h : OrW w wr x ta tc v1 v2 ds rs) : wr.cell? ⟨w.heap.size + 2, 0, none⟩ = some v1 := cell_of_heap h.out rfl
theorem OrW.o1 {w wr : World} {x : LitL} {ta : Option Addr} {tc : Nat} {v1 v2 : Value} {ds : List DoneL} {rs : List RaceL} (h : OrW w wr x ta tc v1 v2 ds rs) : wr.cell? ⟨w.heap.size + 2, 1, none⟩ = some v2 := cell_of_heap h.out rfl
theorem OrW.fz {w wr : World} {x : LitL} {ta : Option Addr} {tc : Nat} {v1 v2 : Value} {ds : List DoneL} {rs : List RaceL} (h : OrW w wr x ta tc v1 v2 ds rs) (j : Nat) : wr.frozen? ⟨w.heap.size + 2, j, none⟩ = false := frozen_of_heap h.out j
theorem OrW.app {w wr w' : World} {x : LitL} {ta : Option Addr} {tc : Nat} {v1 v2 : Value} {ds : List DoneL} {rs : List RaceL} {v1' : Value} {d : DoneL} (h : OrW w wr x ta tc v1 v2 ds rs) (h1 : w'.ownsRow (w.heap.size + 3) 53 2 v1' (ds.length + 1) (doneV ds ++ [.int .i64 (d.t : Int), .int .i64 (d.k : Int)])) (hg : wr.grownBy w' v1.ownBlock) :
  OrW w (w'.setCell ⟨w.heap.size + 2, 0, none⟩ v1') x ta tc v1' v2 (ds ++ [d]) rs := by
 have hown : ∀ k, v1.ownBlock = some k → w.heap.size + 3 ≤ k := fun k e => (World.ownsRow.lt h.acts k e).1
 have hk : ∀ k o, wr.heap[k]? = some o → k < w.heap.size + 3 → w'.heap[k]? = some o := fun k o e hl => (hg.block k (heap_lt e) (fun q => by have := hown k q.symm; omega)).trans e
 have b2 := hk _ _ h.out (by omega)
 have hbw : Below w.heap.size w w' := h.hb.grown hg h.hb.size (fun k e => by have := hown k e; omega)
 refine ⟨below_setCells _ (by omega) [v1'] 0 w' hbw, (heap_set_other _ _ _ _ (by omega)).trans (hk _ _ h.box (by omega)), (heap_set_other _ _ _ _ (by omega)).trans (hk _ _ h.res (by omega)), (heap_set_same b2 0 v1').trans (by simp), ?_, ?_, fun e => absurd e (by simp)⟩
 ·rw [doneV_snoc, List.length_append]
  exact own_kept h1 fun q hq => heap_set_other _ _ _ _ (by have := (World.ownsRow.lt h1 q hq).1; omega)
 ·refine own_kept h.races fun q hq => ?_
  obtain ⟨c, hc⟩ := own_tag h.races hq
  have n1 : q ≠ w.heap.size + 2 := fun e => by
   rw [e, h.out] at hc
   have : (30 : TypeId) = 89 := by injection hc with hc; injection hc
   exact absurd this (by decide)
  have n2 : some q ≠ v1.ownBlock := fun e => by
   obtain ⟨c', hc'⟩ := own_tag h.acts e.symm
   rw [hc'] at hc
   have : (53 : TypeId) = 89 := by injection hc with hc; injection hc
   exact absurd this (by decide)
  exact (heap_set_other _ _ _ _ n1).trans (hg.block q (heap_lt hc) n2)
theorem OrW.race {w wr : World} {x : LitL} {ta : Option Addr} {tc : Nat} {v1 v2 : Value} {ds : List DoneL} {rs : List RaceL} {v2' : Value} {rs' : List RaceL} (h : OrW w wr x ta tc v1 v2 ds rs) (h2 : RacesAt 0 wr v2' rs') : OrW w (wr.setCell ⟨w.heap.size + 2, 1, none⟩ v2') x ta tc v1 v2' ds rs' := by
 refine ⟨below_setCells _ (by omega) [v2'] 1 wr h.hb, (heap_set_other _ _ _ _ (by omega)).trans h.box, (heap_set_other _ _ _ _ (by omega)).trans h.res, (heap_set_same h.out 1 v2').trans (by simp), own_kept h.acts fun q hq => heap_set_other _ _ _ _ (by have := (World.ownsRow.lt h.acts q hq).1; omega), own_kept h2 fun q hq => ?_, h.nn⟩
 obtain ⟨c, hc⟩ := own_tag h2 hq
 refine heap_set_other _ _ _ _ fun e => ?_
 rw [e, h.out] at hc
 have : (30 : TypeId) = 89 := by injection hc with hc; injection hc
 exact absurd this (by decide)
theorem OrW.done {w wr : World} {x : LitL} {ta : Option Addr} {tc : Nat} {v1 v2 : Value} {ds : List DoneL} {rs : List RaceL} (h : OrW w wr x ta tc v1 v2 ds rs) : ∃ da dc, v1 = .slice da ds.length dc ∧ ds.length ≤ dc ∧ DoneAt wr da ds := by
 obtain ⟨da, dc, rfl⟩ := own_form h.acts
 have := doneAt_of h.acts
 exact ⟨da, dc, rfl, this.2.1, this.2.2⟩
theorem OrW.differ {w wr : World} {x : LitL} {ta : Option Addr} {tc : Nat} {v1 v2 : Value} {ds : List DoneL} {rs : List RaceL} (h : OrW w wr x ta tc v1 v2 ds rs) {k : Nat} (e2 : some k = v1.ownBlock) : ∃ c t f, wr.heap[k]? = some (.cells c t f) ∧ t ≠ 2 ∧ t ≠ 25 ∧ (c.size < 5 ∨ ∃ κ z, c[0]? = some (.int κ z)) := by
 have hne : ds ≠ [] := fun q => by rw [h.nn q] at e2; cases e2
 rcases h.acts.2 with ⟨e3, _⟩ | ⟨g, cap, cur, e3, _, hh, _, _, hcs, htk⟩
 ·rw [e3] at e2; cases e2
 ·rw [e3] at e2
  cases e2
  refine ⟨cur, _, _, hh, by decide, by decide, .inr ?_⟩
  cases hds : ds with
  | nil => exact absurd hds hne
  | cons d l =>
   rw [hds] at htk
   have h0 : (cur.toList.take ((d :: l).length * 2))[0]? = (doneV (d :: l))[0]? := by rw [htk]
   rw [List.getElem?_take_of_lt (by simp), Array.getElem?_toList] at h0
   exact ⟨.i64, d.t, h0.trans (by simp [doneV])⟩
theorem OrW.grownSt {w wr w' : World} {x : LitL} {ta : Option Addr} {tc : Nat} {v1 v2 : Value} {ds : List DoneL} {rs : List RaceL} {s : S11} {g : Nat} {u0 u1 u2 u3 u4 : Value} {us1 us4 : List Value} (h : OrW w wr x ta tc v1 v2 ds rs) (hg : wr.grownBy w' v1.ownBlock) (hs : StAt 0 wr g u0 u1 u2 u3 u4 us1 us4 s) : StAt 0 w' g u0 u1 u2 u3 u4 us1 us4 s :=
 stAt_keep hs hg.size fun k hk => by
  by_cases e2 : some k = v1.ownBlock
  ·exact .inr (h.differ e2)
  ·exact .inl (hg.block k hk e2)
theorem OrW.appSt {w wr w' : World} {x : LitL} {ta : Option Addr} {tc : Nat} {v1 v2 : Value} {ds : List DoneL} {rs : List RaceL} {v1' : Value} {s : S11} {g : Nat} {u0 u1 u2 u3 u4 : Value} {us1 us4 : List Value} (h : OrW w wr x ta tc v1 v2 ds rs) (hg : wr.grownBy w' v1.ownBlock) (hs : StAt 0 wr g u0 u1 u2 u3 u4 us1 us4 s) : ReadSt (w'.setCell ⟨w.heap.size + 2, 0, none⟩ v1') (.pointer (some ⟨g, 0, none⟩)) s := by
 refine ⟨g, u0, u1, u2, u3, u4, us1, us4, rfl, stAt_keep hs (by rw [heap_set_size]; exact hg.size) fun k hk => ?_⟩
 by_cases e : k = w.heap.size + 2
 ·refine .inr ⟨_, _, _, by rw [e]; exact h.out, by decide, by decide, .inl (by simp)⟩
 ·by_cases e2 : some k = v1.ownBlock
  ·exact .inr (h.differ e2)
  ·exact .inl ((heap_set_other _ _ _ _ e).trans (hg.block k hk e2))
theorem OrW.seen {w wr : World} {x : LitL} {ta : Option Addr} {tc : Nat} {v1 v2 : Value} {ds : List DoneL} {rs : List RaceL} {s : S11} {p : Value} {zb zo m t : Nat} (h : OrW w wr x ta tc v1 v2 ds rs) (hs : ReadSt wr p s) (hwf : Wf x s) (ht : t < x.thr.length) (hzb : zb < w.heap.size) (hz : wr.cell? ⟨zb, zo + m, none⟩ = some (.int .i64 (t : Int))) :
  ∃ g b0 c0 : Nat, p = .pointer (some ⟨g, 0, none⟩) ∧ (x.thr.length : Int) ≤ (c0 : Int) ∧ (∀ W, wr.grownBy W v1.ownBlock → W.cell? ⟨w.heap.size + 1 + 1, 0, none⟩ = some v1 ∧ W.frozen? ⟨w.heap.size + 1 + 1, 0, none⟩ = false ∧ W.cell? ⟨zb, zo + m, none⟩ = some (.int .i64 (t : Int)) ∧ W.cell? ⟨g, 0, none⟩ = some (.slice (some ⟨b0, 0, none⟩) x.thr.length c0) ∧ W.cell? ⟨b0, t, none⟩ = some (.int .i64 (pcOf s t : Int))) ∧ ∀ W v', wr.grownBy W v1.ownBlock → ReadSt (W.setCell ⟨w.heap.size + 1 + 1, 0, none⟩ v') (.pointer (some ⟨g, 0, none⟩)) s := by
 obtain ⟨g, u0, u1, u2, u3, u4, us1, us4, rfl, hst⟩ := hs
 have hr : RowD.held 0 wr ⟨2, u0, intsV s.pcs⟩ := hst.held _ (by simp [stRows])
 have hl : (intsV s.pcs).length = x.thr.length := by rw [intsV_length, hwf.lp]
 have hr1 : wr.ownsRow 0 2 1 u0 x.thr.length (intsV s.pcs) := by have := hr; unfold RowD.held at this; rw [hl] at this; exact this
 obtain ⟨b0, c0, rfl⟩ := own_some hr1 (by omega)
 have hcap := own_cap hr1
 have hown : ∀ k, v1.ownBlock = some k → w.heap.size + 3 ≤ k := fun k e => (World.ownsRow.lt h.acts k e).1
 refine ⟨g, b0, c0, rfl, by omega, fun W hg => ?_, fun W v' hg => h.appSt hg hst⟩
 have hW := h.grownSt hg hst
 have hO : W.heap[w.heap.size + 2]? = some (.cells #[v1, v2] 30) := (hg.block _ (heap_lt h.out) (fun q => by have := hown _ q.symm; omega)).trans h.out
 have hzW : W.heap[zb]? = wr.heap[zb]? := hg.block zb (by have := h.hb.size; omega) (fun q => by have := hown _ q.symm; omega)
 have hrW : RowD.held 0 W ⟨2, .slice (some ⟨b0, 0, none⟩) x.thr.length c0, intsV s.pcs⟩ := hW.held _ (by simp [stRows])
 have hrW1 : W.ownsRow 0 2 1 (.slice (some ⟨b0, 0, none⟩) x.thr.length c0) x.thr.length (intsV s.pcs) := by have := hrW; unfold RowD.held at this; rw [hl] at this; exact this
 refine ⟨cell_of_heap hO rfl, frozen_of_heap hO 0, (World.cell?_of_block (w := wr) (a := ⟨zb, zo + m, none⟩) hzW).trans hz, by have := hW.row 0 _ rfl; simpa using this, ?_⟩
 rw [World.ownsRow.cellAt hrW1 t (by omega)]
 have htp : t < s.pcs.length := by rw [hwf.lp]; exact ht
 have h0 := (hwf.pn t htp ht).1
 simp only [intsV, List.getElem?_map, List.getElem?_eq_getElem htp, Option.map_some, pcOf, List.getD_eq_getElem?_getD, Option.getD_some]
 congr 2
 omega
def addR (w W0 : World) (v1 : Value) (es : List DoneL) (t pc : Nat) : Nat → (Nat → Value) → World → Prop
 | 0, _, W => Below W0.heap.size W0 W
 | 1, vs, W => Below W0.heap.size W0 W ∧ ∃ b, vs 17 = .slice (some ⟨b, 0, none⟩) 1 1 ∧ ∀ j u, ([.int .i64 (t : Int), .int .i64 (pc : Int)] : List Value)[j]? = some u → W.cell? ((⟨b, 0, none⟩ : Addr).add j) = some u
 | _, vs, W => W0.grownBy W v1.ownBlock ∧ ∃ va vc, vs 18 = .slice va (es.length + 1) vc ∧ W.ownsRow (w.heap.size + 3) 53 2 (.slice va (es.length + 1) vc) (es.length + 1) (doneV es ++ [.int .i64 (t : Int), .int .i64 (pc : Int)])
theorem below_grownBy {W0 W : World} (h : Below W0.heap.size W0 W) (o : Option Nat) : W0.grownBy W o := ⟨h.os, h.tape, h.output, h.size, fun k hk _ => h.block k hk⟩
theorem grown_on {W0 W w3 : World} {o : Option Nat} (h : Below W0.heap.size W0 W) (hg : W.grownBy w3 o) : W0.grownBy w3 o := ⟨hg.os.trans h.os, hg.tape.trans h.tape, hg.output.trans h.output, Nat.le_trans h.size hg.size, fun k hk hne => (hg.block k (Nat.lt_of_lt_of_le hk h.size) hne).trans (h.block k hk)⟩
theorem app_room {w wr : World} {x : LitL} {ta : Option Addr} {tc : Nat} {v1 v2 : Value} {ds : List DoneL} {rs : List RaceL} {m : Nat} (hel : ds.length ≤ m) (hm : (m : Int) < 4000) (h : OrW w wr x ta tc v1 v2 ds rs) : Hid (ds.length + 1 ≤ maxLen) ∧ Hid ((ds.length + 1) * 16 ≤ 140737488355328) ∧ Hid (∀ W, Below wr.heap.size wr W → w.heap.size + 3 ≤ W.heap.size) := by
 refine ⟨?_, ?_, fun W hW => ?_⟩
 ·show _ ≤ _; unfold maxLen; omega
 ·show _ ≤ _; omega
 ·have := heap_lt h.out
  have := hW.size; omega
theorem addR_g {w W0 : World} {v1 : Value} {es : List DoneL} {t pc k : Nat} {vs : Nat → Value} {W : World} (h : addR w W0 v1 es t pc k vs W) : W0.grownBy W v1.ownBlock := by
 match k, h with
 | 0, h => exact below_grownBy h _
 | 1, h => exact below_grownBy h.1 _
 | _ + 2, h => exact h.1
theorem addR_loc (w W0 : World) (v1 : Value) (es : List DoneL) (t pc : Nat) : ∀ k vs i v W, i ∉ [17, 18] → addR w W0 v1 es t pc k vs W → addR w W0 v1 es t pc k (upd vs i v) W := by
 intro k vs i v W hi h
 have e1 : upd vs i v 17 = vs 17 := by unfold upd; rw [if_neg]; intro q; exact hi (by simp [← q])
 have e2 : upd vs i v 18 = vs 18 := by unfold upd; rw [if_neg]; intro q; exact hi (by simp [← q])
 match k, h with
 | 0, h => exact h
 | 1, h => show _ ∧ ∃ b, upd vs i v 17 = _ ∧ _; rw [e1]; exact h
 | _ + 2, h => show _ ∧ ∃ va vc, upd vs i v 18 = _ ∧ _; rw [e2]; exact h
end Go.Proofs.YtknbchheoloaoaaGreat
