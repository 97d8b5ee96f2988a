/- The specification's heap: an object is made. -/
import Derived.Test.YtchcdlelaklnnaaKsI
import Derived.StillTailTactics
import Derived.Test.YtchcdlelaklnnaaRg
namespace Go.Proofs.Ytchcdlelaklnnaa
set_option linter.unusedVariables false
open Go.ChangeShapes Go.WideShapes Go.ChangeAt Go.RowKit

theorem own_full {w : World} {base e g n : Nat} {xs : List Value} (h : w.ownsRow base e 1 (.slice (some ⟨g, 0, none⟩) n n) n xs) : w.heap[g]? = some (.cells xs.toArray e (0, 0)) := by
  rcases h.2 with ⟨q, _⟩ | ⟨g', cap, cur, q, _, hm, h1, h2, h3, h4⟩
  · simp at q
  · injection q with q1 q2 q3
    injection q1 with q1
    injection q1 with q1
    subst q1
    subst q3
    have e2 : cur = xs.toArray := by
      rw [← h4, List.take_of_length_le (by simp; omega)]
    rw [hm, e2]
/-- Where an object is being made: the count is greater, the object lies there. -/
structure MakeW (w W : World) (H : Nat) (s : StM) (ov : Value) (R : Nat) (qv : Value) (p f k : Nat) (c : Int) : Prop where
  os : W.os = w.os
  tape : W.tape = w.tape
  output : W.output = w.output
  size : w.heap.size ≤ W.heap.size
  old : ∀ j, j < w.heap.size → j ≠ H → W.heap[j]? = w.heap[j]?
  hh : W.heap[H]? = some (.cells #[.int .i64 s.mode, ov, .slice (some ⟨R, 0, none⟩) 8 8, .bool s.cyc, qv, .int .i64 ((s.obs.length : Int) + 1)] 61 (0, 0))
  hp : W.heap[p]? = some (.cells #[.int .i64 ((s.obs.length : Int) + 1), .slice (some ⟨f, 0, none⟩) k k, .int .i64 c] 38 (0, 0))
  hf : W.heap[f]? = some (.cells (intsV (List.replicate k 0)).toArray 2 (0, 0))
  lo : w.heap.size ≤ p ∧ w.heap.size ≤ f ∧ H < w.heap.size
theorem MakeW.colour {w W : World} {H : Nat} {s : StM} {ov : Value} {R : Nat} {qv : Value} {p f k : Nat} {c : Int} (h : MakeW w W H s ov R qv p f k c) (d : Int) : MakeW w (W.setCell ⟨p, 2, none⟩ (.int .i64 d)) H s ov R qv p f k d := by
  refine ⟨h.os, h.tape, h.output, by have := h.size; simpa [World.setCell] using this, fun j hj hn => ?_, ?_, ?_, ?_, h.lo⟩
  · rw [set_other _ (by have := h.lo.1; omega)]
    exact h.old j hj hn
  · rw [set_other _ (by have := h.lo; omega)]
    exact h.hh
  · rw [set_same _ h.hp]
    rfl
  · rw [set_other _ (tag_ne h.hf h.hp (by decide))]
    exact h.hf
theorem getD_app {l : List Nat} {x i : Nat} : (l ++ [x]).getD i 0 = if i = l.length then x else l.getD i 0 := by
  rw [List.getD_eq_getElem?_getD, List.getD_eq_getElem?_getD]
  by_cases h : i < l.length
  · rw [List.getElem?_append_left h, if_neg (by omega)]
  · rw [List.getElem?_append_right (by omega)]
    by_cases e : i = l.length
    · subst e; simp
    · rw [if_neg e, List.getElem?_eq_none (by simp; omega), List.getElem?_eq_none (by omega)]
theorem therL_app (obs : List ObM) (x : ObM) (hx : x.there = true) : therL (obs ++ [x]) = therL obs ++ [obs.length] := by
  unfold therL
  rw [List.length_append, List.length_singleton, List.range_succ, List.filter_append]
  congr 1
  · refine List.filter_congr fun i hi => ?_
    rw [List.getElem?_append_left (by simpa using hi)]
  · simp [hx]
theorem ptrsP_app {ps : List Nat} {ix : List Nat} {p : Nat} (h : ∀ i ∈ ix, i < ps.length) : ptrsP (ps ++ [p]) (ix ++ [ps.length]) = ptrsP ps ix ++ [.pointer (some ⟨p, 0, none⟩)] := by
  unfold ptrsP
  rw [List.map_append]
  congr 1
  · refine List.map_congr_left fun i hi => ?_
    rw [getD_app, if_neg (by have := h i hi; omega)]
  · simp
theorem MakeW.done {w W w3 : World} {F : Nat → Prop} {H : Nat} {s : StM} {ps fs : List Nat} {ov ov' : Value} {R : Nat} {qv : Value} {p f k a : Nat} {ob : Obj} (h : SpW w F H s ps fs ov R qv) (m : MakeW w W H s ov R qv p f k (if s.cyc then 3 else 0)) (hg : (W.alloc ob).grownBy w3 ov.ownBlock) (ho : w3.ownsRow 0 62 1 ov' ((therL s.obs).length + 1) (ptrsP ps (therL s.obs) ++ [.pointer (some ⟨p, 0, none⟩)])) (ha : ov'.ownBlock = ov.ownBlock ∨ ov'.ownBlock = some (W.alloc ob).heap.size) (ha8 : a < 8) (hrl : s.roots.length = 8) :
    (SpW ((w3.setCell ⟨H, 1, none⟩ ov').setCell ⟨R, a, none⟩ (.int .i64 ((s.obs.length : Int) + 1))) F H (makeM s a k) (ps ++ [p]) (fs ++ [f]) ov' R qv ∧ Keep F w ((w3.setCell ⟨H, 1, none⟩ ov').setCell ⟨R, a, none⟩ (.int .i64 ((s.obs.length : Int) + 1)))) ∧
    w3.cell? ⟨H, 1, none⟩ = some ov ∧ w3.frozen? ⟨H, 1, none⟩ = false ∧ (∃ cs, w3.heap[H]? = some (.cells cs 61 (0, 0))) ∧ (w3.setCell ⟨H, 1, none⟩ ov').cell? ⟨H, 2, none⟩ = some (.slice (some ⟨R, 0, none⟩) 8 8) ∧ (∃ u, (w3.setCell ⟨H, 1, none⟩ ov').cell? ⟨R, a, none⟩ = some u) ∧ (w3.setCell ⟨H, 1, none⟩ ov').frozen? ⟨R, a, none⟩ = false ∧ (w3.setCell ⟨H, 1, none⟩ ov').cell? ⟨p, 0, none⟩ = some (.int .i64 ((s.obs.length : Int) + 1)) := by
  have s1 : (W.alloc ob).heap.size = W.heap.size + 1 := World.size_alloc _ _
  have s2 := hg.size
  have s3 := m.size
  have hpl := lt_of m.hp
  have hfl := lt_of m.hf
  have hlo := m.lo
  have hov : ∀ j, ov.ownBlock = some j → j < w.heap.size := fun j q => (World.ownsRow.lt h.ow j q).2
  have kp : ∀ j, j < W.heap.size → ov.ownBlock ≠ some j → w3.heap[j]? = W.heap[j]? := fun j hj hq => by
    rw [hg.block j (by omega) (fun e => hq e.symm), Below.heap_alloc _ _ _ hj]
  have hHo : ov.ownBlock ≠ some H := fun q => by
    obtain ⟨cur, b⟩ := own_tag h.ow q
    exact tag_ne b h.blk (by decide) rfl
  have hRo : ov.ownBlock ≠ some R := fun q => by
    obtain ⟨cur, b⟩ := own_tag h.ow q
    exact tag_ne b h.rt (by decide) rfl
  have hRH : R ≠ H := tag_ne h.rt h.blk (by decide)
  have k3H := (kp H (by omega) hHo).trans m.hh
  have k3p := (kp p hpl (fun q => by have := hov p q; omega)).trans m.hp
  have k3f := (kp f hfl (fun q => by have := hov f q; omega)).trans m.hf
  have k3R := ((kp R (by have := lt_of h.rt; omega) hRo).trans (m.old R (lt_of h.rt) hRH)).trans h.rt
  have hov' : ∀ j, ov'.ownBlock = some j → ov.ownBlock = some j ∨ W.heap.size ≤ j := fun j q => by
    rcases ha with e | e
    · exact .inl (e.symm.trans q)
    · rw [e] at q
      injection q with q
      exact .inr (by omega)
  have kR1 : (w3.setCell ⟨H, 1, none⟩ ov').heap[R]? = some (.cells (intsV s.roots).toArray 2 (0, 0)) := by rw [set_other _ hRH]; exact k3R
  have kp2 : ∀ j, j ≠ H → j ≠ R → ((w3.setCell ⟨H, 1, none⟩ ov').setCell ⟨R, a, none⟩ (.int .i64 ((s.obs.length : Int) + 1))).heap[j]? = w3.heap[j]? := fun j h1 h2 => by
    rw [set_other _ h2, set_other _ h1]
  have kold : ∀ j, j < w.heap.size → ov.ownBlock ≠ some j → j ≠ H → j ≠ R → ((w3.setCell ⟨H, 1, none⟩ ov').setCell ⟨R, a, none⟩ (.int .i64 ((s.obs.length : Int) + 1))).heap[j]? = w.heap[j]? := fun j h0 h1 h2 h3 => by
    rw [kp2 j h2 h3, kp j (by omega) h1]
    exact m.old j h0 h2
  have hob := h.ob.kept (w' := (w3.setCell ⟨H, 1, none⟩ ov').setCell ⟨R, a, none⟩ (.int .i64 ((s.obs.length : Int) + 1))) fun j cs t b c => kold j (lt_of b) (fun q => by
    obtain ⟨cur, d⟩ := own_tag h.ow q
    exact tag_ne d b (by rcases c with c | c; rw [c]; decide; rw [c.1]; decide) rfl) (tag_ne b h.blk (by rcases c with c | c; rw [c]; decide; rw [c.1]; decide)) (fun e => by
    rcases c with c | c
    · exact tag_ne b h.rt (by rw [c]; decide) e
    · exact h.n1 (e ▸ c.2))
  have hFp : ∀ j, F j → j < w.heap.size := h.lo.2.2
  have hps : ps.length = s.obs.length := h.ob.lp
  have hfs : fs.length = s.obs.length := h.ob.lf
  refine ⟨⟨⟨⟨by simp [makeM, hps], by simp [makeM, hfs], fun i o hi => ?_, ?_, ⟨fun q hq => ?_, fun q hq => ?_⟩⟩, ?_, ?_, ?_, ?_, ?_, h.n2, ?_, ⟨h.lo.1, h.lo.2.1, fun j q => ?_⟩, ⟨fun j q r => ?_, h.fo.2⟩⟩, ?_⟩, cell_of k3H rfl, free_of k3H, ⟨_, k3H⟩, ?_, ?_, free_of kR1, ?_⟩
  · have hi : (s.obs ++ [⟨List.replicate (k : Int).toNat 0, if s.cyc then 3 else 0, true⟩])[i]? = some o := hi
    by_cases e : i < s.obs.length
    · rw [List.getElem?_append_left e] at hi
      rw [getD_app, getD_app, if_neg (by omega), if_neg (by omega)]
      exact hob.at_ i o hi
    · have hil := (List.getElem?_eq_some_iff.1 hi).1
      have ei : i = s.obs.length := by simp at hil; omega
      subst ei
      rw [List.getElem?_append_right (Nat.le_refl _)] at hi
      simp at hi
      subst hi
      rw [getD_app, getD_app, if_pos hps.symm, if_pos hfs.symm]
      refine ⟨?_, ?_⟩
      · rw [kp2 p (by omega) (by have := lt_of h.rt; omega), k3p]
        simp
      · rw [kp2 f (by omega) (by have := lt_of h.rt; omega), k3f]
  · refine List.nodup_append.2 ⟨h.ob.nd, by simp, fun x hx y hy => ?_⟩
    have : y = f := by simpa using hy
    subst this
    have := (h.ob.lt (k := x) (.inr hx)).1
    omega
  · rcases List.mem_append.1 hq with hq | hq
    · exact h.ob.lo.1 q hq
    · have : q = p := by simpa using hq
      subst this
      intro r
      have := hFp _ r
      omega
  · rcases List.mem_append.1 hq with hq | hq
    · exact h.ob.lo.2 q hq
    · have : q = f := by simpa using hq
      subst this
      intro r
      have := hFp _ r
      omega
  · rw [set_other _ hRH.symm, set_same _ k3H]
    simp [makeM]
  · show World.ownsRow _ _ _ _ _ (therL (s.obs ++ [⟨List.replicate (k : Int).toNat 0, if s.cyc then 3 else 0, true⟩])).length (ptrsP (ps ++ [p]) (therL (s.obs ++ [⟨List.replicate (k : Int).toNat 0, if s.cyc then 3 else 0, true⟩])))
    have e9 := ptrsP_app (ps := ps) (p := p) (ix := therL s.obs) (fun i hi => by obtain ⟨o, h1, _⟩ := mem_therL.1 hi; have := (List.getElem?_eq_some_iff.1 h1).1; omega)
    rw [hps] at e9
    rw [therL_app _ _ rfl, e9, List.length_append]
    refine own_kept ho fun j q => ?_
    obtain ⟨cur, b⟩ := own_tag ho q
    exact kp2 j (tag_ne b k3H (by decide)) (tag_ne b k3R (by decide))
  · rw [set_same _ kR1]
    congr 2
    simp [intsV, makeM, List.map_set]
  · show World.ownsRow _ _ _ _ _ s.row.length (intsV s.row)
    refine own_kept h.ro fun j q => ?_
    obtain ⟨cur, b⟩ := own_tag h.ro q
    exact kold j (lt_of b) (fun q2 => by obtain ⟨c2, d⟩ := own_tag h.ow q2; exact tag_ne d b (by decide) rfl) (tag_ne b h.blk (by decide)) (fun e => h.n2 (e ▸ q))
  · rw [List.mem_append]
    rintro (q | q)
    · exact h.n1 q
    · have : R = f := by simpa using q
      have := lt_of h.rt
      omega
  · intro g hg2
    rcases List.mem_append.1 hg2 with q | q
    · exact h.n3 g q
    · have : g = f := by simpa using q
      subst this
      intro r
      have := (World.ownsRow.lt h.ro _ r).2
      omega
  · have := h.lo.2.2 j q
    simp [World.setCell]
    omega
  · rcases hov' j q with e | e
    · exact h.fo.1 j e r
    · have := hFp j r
      omega
  · refine ⟨?_, ?_, ?_, ?_, fun j hj => ?_⟩
    · exact hg.os.trans m.os
    · exact hg.tape.trans m.tape
    · exact hg.output.trans m.output
    · simp [World.setCell]
      omega
    · exact kold j (hFp j hj) (fun q => h.fo.1 j q hj) (fun e => h.lo.1 (e ▸ hj)) (fun e => h.lo.2.1 (e ▸ hj))
  · exact cell_of (set_same _ k3H) rfl
  · exact ⟨_, cell_of kR1 (intsV_cell (zs := s.roots) (j := a) (by omega))⟩
  · refine cell_of (cs := #[.int .i64 ((s.obs.length : Int) + 1), .slice (some ⟨f, 0, none⟩) k k, .int .i64 (if s.cyc then 3 else 0)]) (t := 38) (fz := (0, 0)) ?_ rfl
    rw [set_other _ (by omega)]
    exact k3p
theorem mk_start {w : World} {F : Nat → Prop} {H : Nat} {s : StM} {ps fs : List Nat} {ov : Value} {R : Nat} {qv : Value} (h : SpW w F H s ps fs ov R qv) (W : World) (row : Array Value) (hW : W = (w.alloc (.cells row 27)).setCell ⟨H, 5, none⟩ (.int .i64 ((s.obs.length : Int) + 1))) :
    W.os = w.os ∧ W.tape = w.tape ∧ W.output = w.output ∧ W.heap.size = w.heap.size + 1 ∧ (∀ j, j < w.heap.size → j ≠ H → W.heap[j]? = w.heap[j]?) ∧ W.heap[H]? = some (.cells #[.int .i64 s.mode, ov, .slice (some ⟨R, 0, none⟩) 8 8, .bool s.cyc, qv, .int .i64 ((s.obs.length : Int) + 1)] 61 (0, 0)) ∧ W.heap[w.heap.size]? = some (.cells row 27 (0, 0)) ∧ H < w.heap.size := by
  have hl := lt_of h.blk
  have kH : (w.alloc (.cells row 27)).heap[H]? = some _ := (Below.heap_alloc _ _ _ hl).trans h.blk
  subst hW
  refine ⟨rfl, rfl, rfl, by simp [World.setCell], fun j hj hn => ?_, ?_, ?_, hl⟩
  · rw [set_other _ hn, Below.heap_alloc _ _ _ hj]
  · rw [set_same _ kH]
    rfl
  · rw [set_other _ (by omega)]
    exact heap_alloc_new _ _
theorem mk_made {w W1 W : World} {H : Nat} {s : StM} {ov : Value} {R : Nat} {qv : Value} {row : Array Value} {p f k : Nat} (h : W1.os = w.os ∧ W1.tape = w.tape ∧ W1.output = w.output ∧ W1.heap.size = w.heap.size + 1 ∧ (∀ j, j < w.heap.size → j ≠ H → W1.heap[j]? = w.heap[j]?) ∧ W1.heap[H]? = some (.cells #[.int .i64 s.mode, ov, .slice (some ⟨R, 0, none⟩) 8 8, .bool s.cyc, qv, .int .i64 ((s.obs.length : Int) + 1)] 61 (0, 0)) ∧ W1.heap[w.heap.size]? = some (.cells row 27 (0, 0)) ∧ H < w.heap.size)
    (hB : Below W1.heap.size W1 W) (hf : W.heap[f]? = some (.cells (intsV (List.replicate k 0)).toArray 2 (0, 0))) (hfl : W1.heap.size ≤ f) (hp : W.heap[p]? = some (.cells #[.int .i64 ((s.obs.length : Int) + 1), .slice (some ⟨f, 0, none⟩) k k, .int .i64 0] 38 (0, 0))) (hpl : W1.heap.size ≤ p) :
    MakeW w W H s ov R qv p f k 0 ∧ W.heap[w.heap.size]? = some (.cells row 27 (0, 0)) := by
  obtain ⟨a1, a2, a3, a4, a5, a6, a7, a8⟩ := h
  refine ⟨⟨hB.os.trans a1, hB.tape.trans a2, hB.output.trans a3, by have := hB.size; omega, fun j hj hn => (hB.block j (by omega)).trans (a5 j hj hn), (hB.block H (by omega)).trans a6, hp, hf, ⟨by omega, by omega, a8⟩⟩, (hB.block _ (by omega)).trans a7⟩
/-- Each operation has its value. -/
def lv (L : List Value) : Nat → Value → Nat → Nat → World → Prop := fun i v _ _ _ => v = L.getD i undef
/-- Each but those that are passed by. -/
def lvs (sk : List Nat) (L : List Value) : Nat → Value → Nat → Nat → World → Prop := fun i v _ _ _ => i ∈ sk ∨ v = L.getD i undef
def lv1 (L : List Value) : Nat → Value → Prop := fun i v => v = L.getD i undef
/-- An object is being made in a region: a row of nulls, then the object. -/
def rowFact (W0 W : World) (f k : Nat) : Prop := W.heap[f]? = some (.cells (intsV (List.replicate k 0)).toArray 2 (0, 0)) ∧ W0.heap.size ≤ f
def objR (W0 : World) (k : Nat) (id : Int) : Nat → (Nat → Value) → World → Prop
  | 0, _, W => Below W0.heap.size W0 W
  | 1, vs, W => Below W0.heap.size W0 W ∧ ∃ f, vs 6 = .slice (some ⟨f, 0, none⟩) k k ∧ rowFact W0 W f k
  | 2, vs, W => Below W0.heap.size W0 W ∧ ∃ f, vs 6 = .slice (some ⟨f, 0, none⟩) k k ∧ vs 7 = .agg #[.int .i64 id, .slice (some ⟨f, 0, none⟩) k k, .int .i64 0] ∧ rowFact W0 W f k
  | _, vs, W => Below W0.heap.size W0 W ∧ ∃ f p, vs 6 = .slice (some ⟨f, 0, none⟩) k k ∧ vs 7 = .agg #[.int .i64 id, .slice (some ⟨f, 0, none⟩) k k, .int .i64 0] ∧ vs 8 = .pointer (some ⟨p, 0, none⟩) ∧ rowFact W0 W f k ∧ W.heap[p]? = some (.cells #[.int .i64 id, .slice (some ⟨f, 0, none⟩) k k, .int .i64 0] 38 (0, 0)) ∧ W0.heap.size ≤ p
theorem objR_below {W0 : World} {k : Nat} {id : Int} : ∀ {n : Nat} {vs : Nat → Value} {W : World}, objR W0 k id n vs W → Below W0.heap.size W0 W
  | 0, _, _, h => h
  | 1, _, _, h => h.1
  | 2, _, _, h => h.1
  | _ + 3, _, _, h => h.1
theorem objR_loc (W0 : World) (k : Nat) (id : Int) : ∀ n vs i v w, i ∉ [6, 7, 8] → objR W0 k id n vs w → objR W0 k id n (upd vs i v) w := by
  intro n vs i v w hi h
  have h6 : upd vs i v 6 = vs 6 := upd_other _ _ (fun e => hi (by simp [← e]))
  have h7 : upd vs i v 7 = vs 7 := upd_other _ _ (fun e => hi (by simp [← e]))
  have h8 : upd vs i v 8 = vs 8 := upd_other _ _ (fun e => hi (by simp [← e]))
  match n, h with
  | 0, h => exact h
  | 1, h => show _ ∧ ∃ f, upd vs i v 6 = _ ∧ _; rw [h6]; exact h
  | 2, h => show _ ∧ ∃ f, upd vs i v 6 = _ ∧ upd vs i v 7 = _ ∧ _; rw [h6, h7]; exact h
  | _ + 3, h => show _ ∧ ∃ f p, upd vs i v 6 = _ ∧ upd vs i v 7 = _ ∧ upd vs i v 8 = _ ∧ _; rw [h6, h7, h8]; exact h
theorem made_row {w w' : World} {k : Nat} (h : w'.ownsRow w.heap.size 2 1 (.slice (some ⟨w.heap.size, 0, none⟩) k k) k (madeCells (Value.int .i64 0).cells (k * 1)).toList) : w'.heap[w.heap.size]? = some (.cells (intsV (List.replicate k 0)).toArray 2 (0, 0)) := by
  have e : (madeCells (Value.int .i64 0).cells (k * 1)).toList = intsV (List.replicate k 0) := by
    simp only [madeCells, Value.cells, intsV, Nat.mul_one]
    refine List.ext_getElem (by simp) fun i h1 h2 => ?_
    have e1 : i % 1 = 0 := Nat.mod_one i
    simp [e1]
  rw [e] at h
  exact own_full h

theorem below_of_grown {B : Nat} {w w' : World} (h : w.grownBy w' none) (hB : B ≤ w.heap.size) : Below B w w' := ⟨h.os, h.tape, h.output, h.size, fun k hk => h.block k (by omega) (by simp)⟩
set_option maxRecDepth 100000 in
set_option maxHeartbeats 1000000 in
theorem make_calls (w : World) (F : Nat → Prop) (H : Nat) (s : StM) (ps fs : List Nat) (ov : Value) (R : Nat) (qv : Value) (kd c : Int) (a k : Nat) (h : SpW w F H s ps fs ov R qv) (hrl : s.roots.length = 8) (hl : s.obs.length < 400) (ha : a < 8) (hk : k ≤ 6) :
    Calls Try.prog 43 #[.pointer (some ⟨H, 0, none⟩), .agg #[.int .i64 kd, .int .i64 a, .int .i64 k, .int .i64 c]] w fun e w' => e = .returned (.tuple #[]) ∧ (∃ ps' fs' ov', SpW w' F H (makeM s a k) ps' fs' ov' R qv) ∧ Keep F w w' := by
  have hH : Hid (SpW w F H s ps fs ov R qv) := h
  obtain ⟨bx, hbx⟩ : ∃ bx, bx = w.heap.size := ⟨_, rfl⟩
  have k5 : (w.alloc (.cells #[.int .i64 kd, .int .i64 a, .int .i64 k, .int .i64 c] 27)).cell? ⟨H, 5, none⟩ = some (.int .i64 s.obs.length) := cellB (below_1 _ _) (lt_of h.blk) (cell_of h.blk rfl)
  have f5 : (w.alloc (.cells #[.int .i64 kd, .int .i64 a, .int .i64 k, .int .i64 c] 27)).frozen? ⟨H, 5, none⟩ = false := freeB (below_1 _ _) (lt_of h.blk) (free_of h.blk)
  have hwr : wrap64 ((s.obs.length : Int) + 1) = (s.obs.length : Int) + 1 := by unfold wrap64; omega
  go_enter Try.func43, Try.ntmps43
  go_upto_region 2 with fail
  obtain ⟨W1, hW1⟩ : ∃ W1, W1 = (w.alloc (.cells #[.int .i64 kd, .int .i64 a, .int .i64 k, .int .i64 c] 27)).setCell ⟨H, 5, none⟩ (.int .i64 ((s.obs.length : Int) + 1)) := ⟨_, rfl⟩
  have hm1 := mk_start h W1 _ hW1
  rw [← hbx, ← hW1]
  have hbxH : Hid (bx = w.heap.size) := hbx
  have hc1 : Hid (∀ W, Below W1.heap.size W1 W → W.cell? ⟨H, 5, none⟩ = some (.int .i64 ((s.obs.length : Int) + 1)) ∧ W.cell? ⟨bx, 2, none⟩ = some (.int .i64 k)) := fun W hB => ⟨cellB hB (lt_of hm1.2.2.2.2.2.1) (cell_of hm1.2.2.2.2.2.1 rfl), by rw [hbxH.out]; exact cellB hB (lt_of hm1.2.2.2.2.2.2.1) (cell_of hm1.2.2.2.2.2.2.1 rfl)⟩
  have hm1H : Hid _ := hm1
  obtain ⟨i9, hi9, hz9, hs9, hb9⟩ := int_info
  clear k5 f5 hwr hW1 hm1 h hbx
  refine wp_region_chain (by kernel_rfl) (fun vs => { tmps := #[.pointer (some ⟨H, 0, none⟩), .agg #[.int .i64 kd, .int .i64 a, .int .i64 k, .int .i64 c], undef, .pointer (some ⟨bx, 0, none⟩), vs 9, .pointer (some ⟨H, 0, none⟩), .pointer (some ⟨H, 0, none⟩), .pointer (some ⟨H, 0, none⟩), .pointer (some ⟨H, 5, none⟩), .int .i64 s.obs.length, .int .i64 ((s.obs.length : Int) + 1), .pointer (some ⟨H, 0, none⟩), .pointer (some ⟨H, 5, none⟩), vs 0, vs 1, vs 2, vs 3, vs 4, vs 5, vs 6, vs 7, vs 8, undef, undef, undef, undef, undef, undef, undef, undef, undef, undef, undef, undef, undef, undef, undef, undef, undef, undef, undef, undef, undef, undef, undef, undef, undef, undef, undef, undef], defers := [] }) [6, 7, 8] (lv1 [.pointer (some ⟨H, 0, none⟩), .pointer (some ⟨H, 0, none⟩), .pointer (some ⟨H, 5, none⟩), .int .i64 ((s.obs.length : Int) + 1), .pointer (some ⟨bx, 2, none⟩), .int .i64 k, undef, undef, undef]) (objR W1 k ((s.obs.length : Int) + 1)) (fun i => undef) rfl (by kernel_rfl) ?_ (objR_loc _ _ _) (allAt_all ⟨?_, ?_, ?_, ?_, ?_, ?_, ?_, ?_, ?_, ?_, trivial⟩) ?_ ?_
  case refine_1 => exact Below.drew (Below.refl _ _)
  case refine_2 =>
    intro _ _ kk vs W hR hv
    have hB := objR_below hR
    clear hv hR
    go_wp2
    exact PurePost.mk' (.pointer (some ⟨H, 0, none⟩)) (by rfl) rfl
  case refine_3 =>
    intro _ _ kk vs W hR hv
    have hB := objR_below hR
    have e0 : vs 0 = .pointer (some ⟨H, 0, none⟩) := hv ⟨0, .data⟩ (by simp) rfl (by decide)
    clear hv hR
    simp only [e0]
    go_wp2
    exact PurePost.mk' (.pointer (some ⟨H, 0, none⟩)) (by show _ = ({ tmps := #[.pointer (some ⟨H, 0, none⟩), .agg #[.int .i64 kd, .int .i64 a, .int .i64 k, .int .i64 c], undef, .pointer (some ⟨bx, 0, none⟩), vs 9, .pointer (some ⟨H, 0, none⟩), .pointer (some ⟨H, 0, none⟩), .pointer (some ⟨H, 0, none⟩), .pointer (some ⟨H, 5, none⟩), .int .i64 s.obs.length, .int .i64 ((s.obs.length : Int) + 1), .pointer (some ⟨H, 0, none⟩), .pointer (some ⟨H, 5, none⟩), vs 0, .pointer (some ⟨H, 0, none⟩), vs 2, vs 3, vs 4, vs 5, vs 6, vs 7, vs 8, undef, undef, undef, undef, undef, undef, undef, undef, undef, undef, undef, undef, undef, undef, undef, undef, undef, undef, undef, undef, undef, undef, undef, undef, undef, undef, undef, undef], defers := [] } : Act); rw [e0]) rfl
  case refine_4 =>
    intro _ _ kk vs W hR hv
    have hB := objR_below hR
    have e1 : vs 1 = .pointer (some ⟨H, 0, none⟩) := hv ⟨1, .data⟩ (by simp) rfl (by decide)
    clear hv hR
    simp only [e1]
    go_wp2
    exact PurePost.mk' (.pointer (some ⟨H, 5, none⟩)) (by show _ = ({ tmps := #[.pointer (some ⟨H, 0, none⟩), .agg #[.int .i64 kd, .int .i64 a, .int .i64 k, .int .i64 c], undef, .pointer (some ⟨bx, 0, none⟩), vs 9, .pointer (some ⟨H, 0, none⟩), .pointer (some ⟨H, 0, none⟩), .pointer (some ⟨H, 0, none⟩), .pointer (some ⟨H, 5, none⟩), .int .i64 s.obs.length, .int .i64 ((s.obs.length : Int) + 1), .pointer (some ⟨H, 0, none⟩), .pointer (some ⟨H, 5, none⟩), vs 0, vs 1, .pointer (some ⟨H, 5, none⟩), vs 3, vs 4, vs 5, vs 6, vs 7, vs 8, undef, undef, undef, undef, undef, undef, undef, undef, undef, undef, undef, undef, undef, undef, undef, undef, undef, undef, undef, undef, undef, undef, undef, undef, undef, undef, undef, undef], defers := [] } : Act); rw [e1]) rfl
  case refine_5 =>
    intro _ _ kk vs W hR hv
    have hB := objR_below hR
    have e2 : vs 2 = .pointer (some ⟨H, 5, none⟩) := hv ⟨2, .data⟩ (by simp) rfl (by decide)
    obtain ⟨q5, qk⟩ := hc1.out W hB
    clear hv hR
    simp only [e2]
    go_wp2
    exact PurePost.mk' (.int .i64 ((s.obs.length : Int) + 1)) (by show _ = ({ tmps := #[.pointer (some ⟨H, 0, none⟩), .agg #[.int .i64 kd, .int .i64 a, .int .i64 k, .int .i64 c], undef, .pointer (some ⟨bx, 0, none⟩), vs 9, .pointer (some ⟨H, 0, none⟩), .pointer (some ⟨H, 0, none⟩), .pointer (some ⟨H, 0, none⟩), .pointer (some ⟨H, 5, none⟩), .int .i64 s.obs.length, .int .i64 ((s.obs.length : Int) + 1), .pointer (some ⟨H, 0, none⟩), .pointer (some ⟨H, 5, none⟩), vs 0, vs 1, vs 2, .int .i64 ((s.obs.length : Int) + 1), vs 4, vs 5, vs 6, vs 7, vs 8, undef, undef, undef, undef, undef, undef, undef, undef, undef, undef, undef, undef, undef, undef, undef, undef, undef, undef, undef, undef, undef, undef, undef, undef, undef, undef, undef, undef], defers := [] } : Act); rw [e2]) rfl
  case refine_6 =>
    intro _ _ kk vs W hR hv
    have hB := objR_below hR
    clear hv hR
    go_wp2
    exact PurePost.mk' (.pointer (some ⟨bx, 2, none⟩)) (by rfl) rfl
  case refine_7 =>
    intro _ _ kk vs W hR hv
    have hB := objR_below hR
    have e4 : vs 4 = .pointer (some ⟨bx, 2, none⟩) := hv ⟨4, .data⟩ (by simp) rfl (by decide)
    obtain ⟨q5, qk⟩ := hc1.out W hB
    clear hv hR
    simp only [e4]
    go_wp2
    exact PurePost.mk' (.int .i64 k) (by first | (rw [← e4]; rfl) | (simp [upd, e4])) rfl
  case refine_8 => exact fun h => absurd (by decide) h
  case refine_9 => exact fun h => absurd (by decide) h
  case refine_10 => exact fun h => absurd (by decide) h
  case refine_11 => exact fun _ h => absurd h (by simp)
  case refine_12 =>
    intro jj q o hq ho vs W hR hv
    match jj, hq with
    | 0, hq =>
      obtain rfl : q = 6 := by simpa using hq.symm
      obtain rfl := Option.some.inj ho
      have hB : Below W1.heap.size W1 W := hR
      have e5 : vs 5 = .int .i64 k := hv ⟨5, .data⟩ (by simp) rfl (by decide)
      clear hv hR
      refine wpList_make_full _ rfl (.tmp 18) (.tmp 18) 32 rfl W.heap.size 2 i9 (.int .i64 0) 1 Try.underlying32 hi9 hz9 hs9 .i64 .i64 k k k e5 e5 rfl rfl (by rw [hb9]; omega) (by unfold maxLen; omega) (Nat.le_refl _) ?_
      intro w2 hown hgrow
      refine wpList_nil ?_
      exact ChainPost.mk' (.slice (some ⟨W.heap.size, 0, none⟩) k k) (by rfl) ⟨hB.trans (below_of_grown hgrow hB.size), W.heap.size, by simp [upd], made_row hown, hB.size⟩
    | 1, hq =>
      obtain rfl : q = 7 := by simpa using hq.symm
      obtain rfl := Option.some.inj ho
      obtain ⟨hB, f, e6, hf⟩ := hR
      have e3 : vs 3 = .int .i64 ((s.obs.length : Int) + 1) := hv ⟨3, .data⟩ (by simp) rfl (by decide)
      clear hv
      simp only [e3, e6]
      go_wp2
      exact ChainPost.mk' (.agg #[.int .i64 ((s.obs.length : Int) + 1), .slice (some ⟨f, 0, none⟩) k k, .int .i64 0]) (by simp [upd, e3, e6]) ⟨hB, f, by simp [upd, e6], by simp [upd], hf⟩
    | 2, hq =>
      obtain rfl : q = 8 := by simpa using hq.symm
      obtain rfl := Option.some.inj ho
      obtain ⟨hB, f, e6, e7, hf⟩ := hR
      clear hv
      simp only [e7]
      go_wp2
      exact ChainPost.mk' (.pointer (some ⟨W.heap.size, 0, none⟩)) (by simp [upd, e7]) ⟨below_on hB (below_1 _ _), f, W.heap.size, by simp [upd, e6], by simp [upd, e7], by simp [upd], ⟨(Below.heap_alloc _ _ _ (lt_of hf.1)).trans hf.1, hf.2⟩, heap_alloc_new _ _, hB.size⟩
    | jj + 3, hq => simp at hq
  case refine_13 =>
    intro o ho vs W hR hv
    obtain rfl := Option.some.inj ho
    clear ho
    have e0 : vs 0 = .pointer (some ⟨H, 0, none⟩) := hv 0 (by simp) (by decide)
    have e1 : vs 1 = .pointer (some ⟨H, 0, none⟩) := hv 1 (by simp) (by decide)
    have e2 : vs 2 = .pointer (some ⟨H, 5, none⟩) := hv 2 (by simp) (by decide)
    have e3 : vs 3 = .int .i64 ((s.obs.length : Int) + 1) := hv 3 (by simp) (by decide)
    have e4 : vs 4 = .pointer (some ⟨bx, 2, none⟩) := hv 4 (by simp) (by decide)
    have e5 : vs 5 = .int .i64 k := hv 5 (by simp) (by decide)
    obtain ⟨hB, f, p, e6, e7, e8, hf, hp, hlp⟩ := hR
    clear hv
    simp only [e6, e7, e8, e0, e1, e2, e3, e4, e5]
    clear e6 e7 e8 e0 e1 e2 e3 e4 e5
    have hM0 := mk_made hm1H.out hB hf.1 hf.2 hp hlp
    have hM : Hid (MakeW w W H s ov R qv p f k 0) := hM0.1
    have hbc : Hid (W.heap[bx]? = some (.cells #[.int .i64 kd, .int .i64 a, .int .i64 k, .int .i64 c] 27 (0, 0))) := by show _ = _; rw [hbxH.out]; exact hM0.2
    have hpb : Hid (p ≠ bx) := tag_ne hp hbc.out (by decide)
    clear hM0 hm1H hB hf hp hlp hc1
    have k3 : W.cell? ⟨H, 3, none⟩ = some (.bool s.cyc) := cell_of hM.out.hh rfl
    have k2 : W.cell? ⟨p, 2, none⟩ = some (.int .i64 0) := cell_of hM.out.hp rfl
    have f2 : W.frozen? ⟨p, 2, none⟩ = false := free_of hM.out.hp
    cases hcy : s.cyc
    case' false =>
      rw [hcy] at k3
      have hMc : Hid (MakeW w W H s ov R qv p f k (if s.cyc then 3 else 0)) := by
        show MakeW w W H s ov R qv p f k (if s.cyc then 3 else 0)
        rw [hcy]; exact hM.out
      have hbc2 : Hid _ := hbc
      clear hcy k2 f2 hM
      go_upto_region 5 with fail
      clear k3
    case' true =>
      rw [hcy] at k3
      have hMc : Hid (MakeW w (W.setCell ⟨p, 2, none⟩ (.int .i64 3)) H s ov R qv p f k (if s.cyc then 3 else 0)) := by
        show MakeW w (W.setCell ⟨p, 2, none⟩ (.int .i64 3)) H s ov R qv p f k (if s.cyc then 3 else 0)
        rw [hcy]; exact hM.out.colour 3
      have hbc2 : Hid ((W.setCell ⟨p, 2, none⟩ (.int .i64 3)).heap[bx]? = some (.cells #[.int .i64 kd, .int .i64 a, .int .i64 k, .int .i64 c] 27 (0, 0))) := (set_other _ hpb.out.symm).trans hbc.out
      clear hcy hM
      go_upto_region 5 with fail
      clear k3 k2 f2
      generalize W.setCell ⟨p, 2, none⟩ (.int .i64 3) = W at *
    all_goals
      clear hbc
      have k1 : W.cell? ⟨H, 1, none⟩ = some ov := cell_of hMc.out.hh rfl
      obtain ⟨oa, oc, rfl⟩ := own_slice hH.out.ow
      have hdone : Hid (∀ (w3 : World) (ov' : Value) (ob : Obj), (W.alloc ob).grownBy w3 (Value.slice oa (therL s.obs).length oc).ownBlock → w3.ownsRow 0 62 1 ov' ((therL s.obs).length + 1) (ptrsP ps (therL s.obs) ++ [.pointer (some ⟨p, 0, none⟩)]) → (ov'.ownBlock = (Value.slice oa (therL s.obs).length oc).ownBlock ∨ ov'.ownBlock = some (W.alloc ob).heap.size) → _) := fun w3 ov' ob a1 a2 a3 => MakeW.done (a := a) hH.out hMc.out a1 a2 a3 ha hrl
      have hloA : Hid ((W.alloc (.cells #[.pointer (some ⟨p, 0, none⟩)] 62)).ownsRow 0 62 1 (.slice oa (therL s.obs).length oc) (therL s.obs).length (ptrsP ps (therL s.obs))) := by
        refine own_kept hH.out.ow fun j hj => ?_
        have hjl := (World.ownsRow.lt hH.out.ow j hj).2
        have hs := hMc.out.size
        rw [Below.heap_alloc _ _ _ (by omega)]
        obtain ⟨cur, b⟩ := own_tag hH.out.ow hj
        exact hMc.out.old j hjl (tag_ne b hH.out.blk (by decide))
      have hsrcA : Hid (SrcAt (W.alloc (.cells #[.pointer (some ⟨p, 0, none⟩)] 62)) 1 (.slice (some ⟨W.heap.size, 0, none⟩) 1 1) 1 [.pointer (some ⟨p, 0, none⟩)]) := src_one W _ 62
      obtain ⟨i8, hi8, hz8, hs8, hb8⟩ := ptr_info
      have hll : (therL s.obs).length ≤ 400 := Nat.le_trans (therL_len _) (by omega)
      have hbx2 : Hid (∀ w3 : World, (W.alloc (.cells #[.pointer (some ⟨p, 0, none⟩)] 62)).grownBy w3 (Value.slice oa (therL s.obs).length oc).ownBlock → w3.heap[bx]? = some (.cells #[.int .i64 kd, .int .i64 a, .int .i64 k, .int .i64 c] 27 (0, 0))) := fun w3 hg => by
        have hbl := lt_of hbc2.out
        rw [hg.block bx (by rw [World.size_alloc]; omega) (fun q => ?_), Below.heap_alloc _ _ _ hbl]
        · exact hbc2.out
        · have := (World.ownsRow.lt hH.out.ow bx q.symm).2
          have := hbxH.out
          omega
      clear hMc hbc2 hpb hH
      go_wp2_with (refine wpList_append_src rfl (.tmp 33) (.tmp 35) 59 rfl 0 62 i8 (.pointer none) 1 8 Try.underlying59 hi8 hz8 hs8 hb8 rfl (by omega) _ (therL s.obs).length (ptrsP ps (therL s.obs)) rfl hloA.out _ 1 [.pointer (some ⟨p, 0, none⟩)] rfl hsrcA.out (by simp [Value.oneCell']) (by unfold maxLen; omega) (by omega) (Nat.zero_le _) (fun ov' w3 hown2 hgrow2 hat2 => ?_); have hd := hdone.out w3 ov' _ hgrow2 hown2 hat2; have hb3 : Hid _ := hbx2.out w3 hgrow2; obtain ⟨oa', oc', rfl⟩ := own_slice hown2; obtain ⟨hd1, hd2, hd3, ⟨hcs, hd8⟩, hd4, hd5, hd6, hd7⟩ := hd; have hd8H : Hid _ := hd8; have hd1H : Hid _ := hd1; clear hown2 hgrow2 hat2 hd1 hd8)
      have kb1 : (w3.setCell ⟨H, 1, none⟩ (.slice oa' ((therL s.obs).length + 1) oc')).cell? ⟨bx, 1, none⟩ = some (.int .i64 a) := cell_of ((set_other _ (tag_ne hb3.out hd8H.out (by decide))).trans hb3.out) rfl
      clear hd8H hb3 hd2 hd3 hdone hloA hsrcA hbx2
      generalize w3.setCell ⟨H, 1, none⟩ (.slice oa' ((therL s.obs).length + 1) oc') = W4 at *
      obtain ⟨u5, hd5⟩ := hd5
      have ha8 : (a : Int) < 8 := by omega
      go_still_tail 11, (by kernel_rfl)
      go_wp2
      first | (refine bodyPost_ret (results_none rfl _ _ _) rfl ?_) | go_end0
      exact ⟨rfl, ⟨_, _, _, hd1H.out.1.below (Below.drew (Below.refl _ _))⟩, hd1H.out.2.trans (Keep.of (Below.drew (Below.refl _ _)) (fun j q => hd1H.out.1.lo.2.2 j q))⟩
end Go.Proofs.Ytchcdlelaklnnaa
