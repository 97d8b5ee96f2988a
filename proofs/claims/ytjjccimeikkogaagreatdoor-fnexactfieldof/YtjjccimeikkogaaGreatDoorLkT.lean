import Derived.Test.YtjjccimeikkogaaGreatDoorLkS
import Derived.Shelf.Abstract
import Derived.Shelf.RegionOpen
import Derived.OwnWalkIn
import Derived.TacticsInMore
import Derived.LoopNIn
import Derived.LoopIn
namespace Go.Proofs.YtjjccimeikkogaaGreatDoor
set_option linter.unusedVariables false
open Go.ChangeShapes Go.WideShapes Go.ChangeAt Go.RowKit Go.Shelf
attribute [local go_sem] Oper.semAt_some
structure ItS {α : Type} (J : (Nat → Prop) → List α → World → Prop) (W wr : World) (nB N b1 b2 P : Nat) (s : ByteArray) (mb mr rb : Nat) (rv : Value) (F : Nat → Prop) (pre : List α) (row : List Nat) : Prop where
 hb : Below nB W wr
 hs : W.heap.size ≤ wr.heap.size
 x1 : wr.heap[b1]? = some (.cells #[.pointer (some ⟨P, 0, none⟩)] 54 (0, 0))
 x2 : wr.heap[b2]? = some (.cells #[.string s] 9 (0, 0))
 me : MeW wr nB N mb mr rb rv row
 jf : J F pre wr
 fo : ∀ k, F k → nB ≤ k ∧ k ≠ b1 ∧ k ≠ b2 ∧ k ≠ mb ∧ k ≠ mr ∧ k ≠ rb ∧ rv.ownBlock ≠ some k
theorem lt_of {w : World} {a : Nat} {o : Obj} (h : w.heap[a]? = some o) : a < w.heap.size := (Array.getElem?_eq_some_iff.1 h).1
theorem ItS.on {α : Type} {J : (Nat → Prop) → List α → World → Prop} (hJ : Foot J) {W wr wq : World} {nB N b1 b2 P : Nat} {s : ByteArray} {mb mr rb : Nat} {rv : Value} {F : Nat → Prop} {pre : List α} {row : List Nat} (h : ItS J W wr nB N b1 b2 P s mb mr rb rv F pre row) (hb : Below wr.heap.size wr wq) (hnB : nB ≤ W.heap.size) : ItS J W wq nB N b1 b2 P s mb mr rb rv F pre row := by
 have hl : ∀ {k}, rv.ownBlock = some k → k < wr.heap.size := fun hk => by
  obtain ⟨c, h1, _⟩ := own_tag h.me.r2 hk
  exact lt_of h1
 obtain ⟨cur, hcu, _⟩ := h.me.m2
 refine ⟨h.hb.trans (hb.mono (Nat.le_trans hnB h.hs)), Nat.le_trans h.hs hb.size, (hb.block _ (lt_of h.x1)).trans h.x1, (hb.block _ (lt_of h.x2)).trans h.x2, h.me.kept fun k hk => hb.block k ?_, hJ.kp h.jf ⟨hb.os, hb.tape, hb.output, hb.size, fun k hk => hb.block k (hJ.lt h.jf k hk)⟩, h.fo⟩
 rcases hk with rfl | rfl | rfl | hk
 ·exact lt_of h.me.m1
 ·exact lt_of hcu
 ·exact lt_of h.me.r1
 ·exact hl hk
theorem ItS.met {α : Type} {J : (Nat → Prop) → List α → World → Prop} (hJ : Foot J) {W wr wq : World} {nB N b1 b2 P : Nat} {s : ByteArray} {mb mr rb : Nat} {rv rv' : Value} {F : Nat → Prop} {pre : List α} {row row' : List Nat} (h : ItS J W wr nB N b1 b2 P s mb mr rb rv F pre row) (hnB : nB ≤ W.heap.size)
  (hm : MeW wq nB N mb mr rb rv' row') (hv : rv'.ownBlock = rv.ownBlock ∨ ∃ g, rv'.ownBlock = some g ∧ wr.heap.size ≤ g) (hk : Keep (fun k => k < wr.heap.size ∧ k ≠ mr ∧ k ≠ rb ∧ rv.ownBlock ≠ some k) wr wq) : ItS J W wq nB N b1 b2 P s mb mr rb rv' F pre row' := by
 obtain ⟨cur, hcu, _⟩ := h.me.m2
 have hrv : ∀ {k c t}, wr.heap[k]? = some (.cells c t (0, 0)) → t ≠ 3 → rv.ownBlock ≠ some k := fun h1 h2 q => by
  obtain ⟨c', h3, _⟩ := own_tag h.me.r2 q
  exact tag_ne h1 h3 h2 rfl
 refine ⟨h.hb.trans ⟨hk.os, hk.tape, hk.output, hk.size, fun k hlt => hk.block k ⟨by have := h.hs; omega, by have := h.me.lo.2.1; omega, by have := h.me.lo.2.2; omega, fun q => by
   obtain ⟨c', _, h4⟩ := own_tag h.me.r2 q
   omega⟩⟩, Nat.le_trans h.hs hk.size, (hk.block b1 ⟨lt_of h.x1, tag_ne h.x1 hcu (by decide), tag_ne h.x1 h.me.r1 (by decide), hrv h.x1 (by decide)⟩).trans h.x1,
  (hk.block b2 ⟨lt_of h.x2, tag_ne h.x2 hcu (by decide), tag_ne h.x2 h.me.r1 (by decide), hrv h.x2 (by decide)⟩).trans h.x2, hm, hJ.kp h.jf (hk.mono fun k q => ?_), fun k q => ?_⟩
 ·obtain ⟨q1, q2, q3, q4, q5, q6, q7⟩ := h.fo k q
  exact ⟨hJ.lt h.jf k q, q5, q6, q7⟩
 ·obtain ⟨q1, q2, q3, q4, q5, q6, q7⟩ := h.fo k q
  refine ⟨q1, q2, q3, q4, q5, q6, ?_⟩
  rcases hv with e | ⟨g, e, hg⟩
  ·rw [e]; exact q7
  ·rw [e]
   intro e2
   injection e2 with e2
   have := hJ.lt h.jf k q
   omega
theorem ItS.round {α : Type} {J J' : (Nat → Prop) → List α → World → Prop} (hJ : Foot J) {W wr wq : World} {nB N b1 b2 P : Nat} {s : ByteArray} {mb mr rb : Nat} {rv : Value} {F F' : Nat → Prop} {pre pre' : List α} {row : List Nat} (h : ItS J W wr nB N b1 b2 P s mb mr rb rv F pre row) (hnB : nB ≤ W.heap.size) (hj : J' F' pre' wq) (hs : Stp F F' wr wq) : ItS J' W wq nB N b1 b2 P s mb mr rb rv F' pre' row := by
 obtain ⟨cur, hcu, _⟩ := h.me.m2
 have hnF : ∀ k, (k = b1 ∨ k = b2 ∨ k = mb ∨ k = mr ∨ k = rb ∨ rv.ownBlock = some k) → ¬ F k := fun k q hk => by
  obtain ⟨q1, q2, q3, q4, q5, q6, q7⟩ := h.fo k hk
  rcases q with q | q | q | q | q | q
  ·exact q2 q
  ·exact q3 q
  ·exact q4 q
  ·exact q5 q
  ·exact q6 q
  ·exact q7 q
 have hl : ∀ {k}, rv.ownBlock = some k → k < wr.heap.size := fun hk => by
  obtain ⟨c, h1, _⟩ := own_tag h.me.r2 hk
  exact lt_of h1
 refine ⟨h.hb.trans ⟨hs.kp.os, hs.kp.tape, hs.kp.output, hs.kp.size, fun k hlt => hs.kp.block k ⟨by have := h.hs; omega, fun q => by have := (h.fo k q).1; omega⟩⟩, Nat.le_trans h.hs hs.kp.size,
  (hs.kp.block b1 ⟨lt_of h.x1, hnF b1 (.inl rfl)⟩).trans h.x1, (hs.kp.block b2 ⟨lt_of h.x2, hnF b2 (.inr (.inl rfl))⟩).trans h.x2, h.me.kept fun k hk => hs.kp.block k ⟨?_, hnF k (.inr (.inr hk))⟩, hj, fun k hk => ?_⟩
 ·rcases hk with rfl | rfl | rfl | hk
  ·exact lt_of h.me.m1
  ·exact lt_of hcu
  ·exact lt_of h.me.r1
  ·exact hl hk
 ·rcases hs.fo k hk with q | q
  ·exact h.fo k q
  ·have a1 := lt_of h.x1
   have a2 := lt_of h.x2
   have a3 := lt_of h.me.m1
   have a4 := lt_of hcu
   have a5 := lt_of h.me.r1
   exact ⟨by have := h.hs; omega, by omega, by omega, by omega, by omega, by omega, fun e => by have := hl e; omega⟩
theorem make_fullIn {F : Fence} {k : Nat} {P : Program} (w : World) {ops : Array Oper} {rest : List Oper} {o : Oper} {a : Act} {Q : Exit → Act → World → Prop}
  (hg : o.guard = none) (l c : Operand) (t : TypeId) (hop : o.op = Op.makeSlice t l c)
  (base : Nat) (e : TypeId) (i : TypeInfo) (z : Value) (size : Nat) (h1 : P.underlying t = some (.slice e)) (h2 : P.info? e = some i) (h3 : i.zero = some z) (h4 : i.size = size)
  (kl kc : IntKind) (n : Nat) (hl : a.eval l = .int kl (n : Int)) (hc : a.eval c = .int kc (n : Int)) (b2 : i.bytes * n ≤ 281474976710656) (b3 : n ≤ maxLen) (b4 : base ≤ w.heap.size)
  (hK : ∀ w', w'.ownsRow base e size (.slice (some ⟨w.heap.size, 0, none⟩) n n) n (madeCells z.cells (n * size)).toList → w.grownBy w' none → wpListIn F k P ops Q rest (a.put o.dst (.slice (some ⟨w.heap.size, 0, none⟩) n n)) w') :
  wpListIn F k P ops Q (o :: rest) a w := by
 refine wpListIn_plain hg fun K hK' => ?_
 obtain ⟨w', hrun, r1, r2⟩ := run_make_full (P := P) w base t e i z size h1 h2 h3 h4 kl kc n b2 b3 b4
 unfold Oper.wpIn
 refine ⟨?_, ?_⟩
 ·simp [Oper.about, hop]
 ·rw [Oper.semAt_plain F _ _ (by rw [hop]; intro c hc'; cases hc')]
  simp [execOp, hop, hl, hc, hrun, Result.andThen]
  exact hK' _ _ (hK w' r1 r2)
theorem ItS.start {α : Type} {J : (Nat → Prop) → List α → World → Prop} (hJ : Foot J) {W w1 : World} {nB N b1 b2 P : Nat} {s : ByteArray} {F0 : Nat → Prop} (hnB : nB ≤ W.heap.size) (x1 : W.heap[b1]? = some (.cells #[.pointer (some ⟨P, 0, none⟩)] 54 (0, 0))) (x2 : W.heap[b2]? = some (.cells #[.string s] 9 (0, 0))) (h0 : J F0 [] W)
  (hF0 : ∀ k, F0 k → nB ≤ k ∧ ¬ (k = b1 ∨ k = b2)) (hg : W.grownBy w1 none) (ho : w1.ownsRow W.heap.size 4 1 (.slice (some ⟨W.heap.size, 0, none⟩) N N) N (List.replicate N (.bool false))) :
  ItS J W ((w1.alloc (.cells #[.slice (some ⟨W.heap.size, 0, none⟩) N N] 73)).alloc (.cells #[.slice none 0 0] 79)) nB N b1 b2 P s w1.heap.size W.heap.size (w1.heap.size + 1) (.slice none 0 0) F0 [] [] := by
 have hbw : Below W.heap.size W w1 := ⟨hg.os, hg.tape, hg.output, hg.size, fun k hk => hg.block k hk (by simp)⟩
 have hsz := hg.size
 have hb : Below W.heap.size W ((w1.alloc (.cells #[.slice (some ⟨W.heap.size, 0, none⟩) N N] 73)).alloc (.cells #[.slice none 0 0] 79)) := below_on2 (below_on2 hbw (below_1 _ _)) (below_1 _ _)
 refine ⟨hb.mono hnB, hb.size, (hb.block _ (lt_of x1)).trans x1, (hb.block _ (lt_of x2)).trans x2, ⟨?_, ?_, ?_, ⟨rfl, .inl ⟨rfl, rfl⟩⟩, by omega, hnB, by omega⟩, hJ.kp h0 ⟨hb.os, hb.tape, hb.output, hb.size, fun k hk => hb.block k (hJ.lt h0 k hk)⟩, fun k hk => ?_⟩
 ·rw [Below.heap_alloc _ _ _ (by simp)]
  exact heap_alloc_new w1 _
 ·rcases ho.2 with ⟨e, _⟩ | ⟨g, cap, cur, e, h1, h2, h3, h4, h5, h6⟩
  ·cases e
  ·injection e with e1 e2 e3
   injection e1 with e1
   injection e1 with e1
   subst e1
   refine ⟨cur, ?_, fun j hj => ?_⟩
   ·have := lt_of h2
    rw [Below.heap_alloc _ _ _ (by simp; omega), Below.heap_alloc _ _ _ (by omega)]
    exact h2
   ·have h7 : (List.replicate N (Value.bool false))[j]? = some (.bool false) := by simp [hj]
    rw [← h6, List.getElem?_take_of_lt (by omega)] at h7
    simpa using h7
 ·have := heap_alloc_new (w1.alloc (.cells #[.slice (some ⟨W.heap.size, 0, none⟩) N N] 73)) (.cells #[.slice none 0 0] 79)
  rw [World.size_alloc] at this
  exact this
 ·obtain ⟨q1, q2⟩ := hF0 k hk
  have := hJ.lt h0 k hk
  exact ⟨q1, fun q => q2 (.inl q), fun q => q2 (.inr q), by omega, by omega, by omega, fun q => by cases q⟩
theorem made_falses (n : Nat) : (madeCells (Value.bool false).cells (n * 1)).toList = List.replicate n (.bool false) := by
 rw [show (Value.bool false).cells = #[.bool false] from rfl, toList_madeCells_one, Nat.mul_one]
theorem ItS.cellR {α : Type} {J : (Nat → Prop) → List α → World → Prop} {W wr : World} {nB N b1 b2 P : Nat} {s : ByteArray} {mb mr rb : Nat} {rv : Value} {F : Nat → Prop} {pre : List α} {row : List Nat} (h : ItS J W wr nB N b1 b2 P s mb mr rb rv F pre row) : wr.cell? ⟨rb, 0, none⟩ = some rv := by simp [World.cell?, h.me.r1]
theorem own_int {w : World} {B g n c : Nat} {row : List Nat} (h : w.ownsRow B 3 1 (.slice (some ⟨g, 0, none⟩) n c) row.length (intsK row)) {j : Nat} (hj : j < row.length) : w.cell? ⟨g, j, none⟩ = some (.int .i64 (row[j] : Int)) := by
 rcases h.2 with ⟨e, _⟩ | ⟨g', cap, cur, e, h1, h2, h3, h4, h5, h6⟩
 ·cases e
 ·injection e with e1 e2 e3
  injection e1 with e1
  injection e1 with e1
  subst e1
  have h7 : (intsK row)[j]? = some (.int .i64 (row[j] : Int)) := by simp [intsK, hj]
  rw [← h6, List.getElem?_take_of_lt (by omega)] at h7
  simp only [World.cell?, h2]
  simpa using h7
theorem it_c4 {W w1 : World} {b : Nat} {v : Value} {t : TypeId} (h : W.heap[b]? = some (.cells #[v] t (0, 0))) (hg : W.grownBy w1 none) (x y : Obj) : ((w1.alloc x).alloc y).cell? ⟨b, 0, none⟩ = some v := by
 have h1 : w1.heap[b]? = some (.cells #[v] t (0, 0)) := (hg.block b (lt_of h) (by simp)).trans h
 have h2 := Below.heap_alloc w1 x b (lt_of h1)
 have h3 := Below.heap_alloc (w1.alloc x) y b (by simp; have := lt_of h1; omega)
 rw [h2] at h3
 rw [h1] at h3
 simp [World.cell?, h3]
set_option maxRecDepth 1000000 in
set_option maxHeartbeats 8000000 in
theorem above_seq (n : Nat) (w : World) (nB P : Nat) (all : List ClassL) (av ov : Value) (M J0 R0 rc : Nat) (D : DataW Unit) (CE : Nat → Array Value) (b1 b2 : Nat) (s : ByteArray) (hok : AllOk all) (hd : ItD w nB P all av ov M J0 R0 rc D CE)
  (hb1 : w.heap[b1]? = some (.cells #[.pointer (some ⟨P, 0, none⟩)] 54 (0, 0))) (hb2 : w.heap[b2]? = some (.cells #[.string s] 9 (0, 0))) (hs : s.size ≤ 1048576) :
  SeqFp n Tryz.prog 52 #[.pointer (some ⟨b1, 0, none⟩), .pointer (some ⟨b2, 0, none⟩)] (fun k : Nat => #[.agg (CE k)]) (abvL all s.toList) nB (fun k => k = b1 ∨ k = b2) w := by
 intro l J Jx F0 W hW hJ hJx hF0 hY h0
 have hdW : Hid (∀ W', Below nB W W' → ItD W' nB P all av ov M J0 R0 rc D CE) := fun W' h => (hd.kept (hW.mono hd.lt.2.2)).kept h
 have hx1 : W.heap[b1]? = some (.cells #[.pointer (some ⟨P, 0, none⟩)] 54 (0, 0)) := (hW.block b1 (lt_of hb1)).trans hb1
 have hx2 : W.heap[b2]? = some (.cells #[.string s] 9 (0, 0)) := (hW.block b2 (lt_of hb2)).trans hb2
 have hnB : nB ≤ W.heap.size := Nat.le_trans hd.lt.2.2 hW.size
 obtain ⟨R, hR⟩ : ∃ R, abvL all s.toList = R := ⟨_, rfl⟩
 rw [hR] at hY ⊢
 have hRH : Hid (abvL all s.toList = R) := hR
 have hWn : Hid (Below nB w W) := hW.mono hd.lt.2.2
 have hYH : Hid (∀ F pre x W1, J F pre W1 → Below nB w W1 → pre ++ [x] <+: R → YieldAt Fence.wide (n - 1) Tryz.prog l #[.agg (CE x)] W1 fun e W' =>
   (e = .returned (.bool true) ∧ ∃ F', J F' (pre ++ [x]) W' ∧ Stp F F' W1 W') ∨ (e = .returned (.bool false) ∧ ∃ F', Jx F' (pre ++ [x]) W' ∧ Stp F F' W1 W')) := hY
 have hokH : Hid (AllOk all) := hok
 have hJH : Hid (Foot J ∧ Foot Jx) := ⟨hJ, hJx⟩
 obtain ⟨rv0, hsp⟩ := (hdW.out W (Below.refl _ _)).spc
 obtain ⟨ab, ao, ac, rfl, hab, -⟩ := (hdW.out W (Below.refl _ _)).av_
 have c1 : W.cell? ⟨b1, 0, none⟩ = some (.pointer (some ⟨P, 0, none⟩)) := by simp [World.cell?, hx1]
 have c2 : W.cell? ⟨P, 0, none⟩ = some (.slice (some ⟨ab, ao, none⟩) all.length ac) := by simp [World.cell?, hsp]
 have c3 : W.cell? ⟨b2, 0, none⟩ = some (.string s) := by simp [World.cell?, hx2]
 have hN : all.length ≤ 100 := hok.len
 have hinit : Hid (W.heap[b1]? = some (.cells #[.pointer (some ⟨P, 0, none⟩)] 54 (0, 0)) ∧ W.heap[b2]? = some (.cells #[.string s] 9 (0, 0)) ∧ J F0 [] W ∧ ∀ k, F0 k → nB ≤ k ∧ ¬ (k = b1 ∨ k = b2)) := ⟨hx1, hx2, h0, hF0⟩
 clear hd hb1 hb2 hW hY h0 hF0 hok hJ hJx hsp hx1 hx2 hR
 refine callsIn_of_wp Tryz.func52 rfl trivial ?_ rfl
 simp only [Tryz.ntmps52, List.size_toArray, List.length_cons, List.length_nil, Nat.reduceAdd, Nat.reduceSub, Array.replicate_succ, Array.replicate_zero, List.push_toArray, List.append_toArray, List.nil_append, List.cons_append]
 obtain ⟨i0, hi0, hz0, hz1, hz2⟩ := info_parts (show (Tryz.prog.info? 4).map (fun i => (i.zero, i.size, i.bytes)) = some (some (.bool false), 1, 1) by kernel_rfl)
 gi_wp2_with (refine make_fullIn _ rfl (.tmp 15) (.tmp 15) 73 rfl W.heap.size 4 i0 (.bool false) 1 Tryz.underlying73 hi0 hz0 hz1 .i64 .i64 all.length rfl rfl (by rw [hz2]; omega) (by unfold maxLen; omega) (Nat.le_refl _) ?_; intro w1 hown1 hgrow1; have c4 : ((w1.alloc (.cells #[.slice (some ⟨W.heap.size, 0, none⟩) all.length all.length] 73)).alloc (.cells #[.slice none 0 0] 79)).cell? ⟨b2, 0, none⟩ = some (.string s) := it_c4 hinit.out.2.1 hgrow1 _ _)
 rw [made_falses] at hown1
 have hst := ItS.start (P := P) (s := s) hJH.out.1 hnB hinit.out.1 hinit.out.2.1 hinit.out.2.2.1 hinit.out.2.2.2 hgrow1 hown1
 generalize (w1.alloc (.cells #[.slice (some ⟨W.heap.size, 0, none⟩) all.length all.length] 73)).alloc (.cells #[.slice none 0 0] 79) = W2 at *
 obtain ⟨mb, hmb⟩ : ∃ mb, w1.heap.size = mb := ⟨_, rfl⟩
 obtain ⟨mr, hmr⟩ : ∃ mr, W.heap.size = mr := ⟨_, rfl⟩
 obtain ⟨rb, hrb⟩ : ∃ rb, w1.heap.size + 1 = rb := ⟨_, rfl⟩
 rw [hrb] at hst ⊢
 rw [hmb] at hst ⊢
 rw [hmr] at hst ⊢
 have hstH : Hid (ItS J W W2 nB all.length b1 b2 P s mb mr rb (.slice none 0 0) F0 [] []) := hst
 have hmrH : Hid (W.heap.size = mr) := hmr
 clear hst hown1 hgrow1 hmb hrb hmr c1 c2 c3 c4 hinit
 refine ⟨trivial, fun h => by simp [Fence.wide] at h, ?_⟩
 refine (callsIn_wide.2 (meet_calls s W2 nB P all _ ov M J0 R0 rc D CE b1 mb mr rb (.slice none 0 0) [] (hdW.out W2 hstH.out.hb) hstH.out.x1 hstH.out.me hs hN (RowK.nil all))).mono ?_
 rintro e W3 ⟨rfl, ⟨rv1, hm1, hv1⟩, hk1⟩
 have hst3 : Hid (ItS J W W3 nB all.length b1 b2 P s mb mr rb rv1 F0 [] (meetL all [] s)) := hstH.out.met hJH.out.1 hnB hm1 hv1 hk1
 have habv : Hid (Abv all R 0 (meetL all [] s)) := by
  show Abv all R 0 _
  rw [← hRH.out]; exact Abv.start all s
 clear hm1 hv1 hk1 hstH
 gi_wp2
 gi_loopw [7] (fun i wr => ∃ (at' : Nat) (row : List Nat) (rv : Value) (F : Nat → Prop), i = .int .i64 at' ∧ Hid (ItS J W wr nB all.length b1 b2 P s mb mr rb rv F (R.take at') row ∧ Abv all R at' row)) (fun i _ => 101 - (intOf i).toNat)
 case atStart => exact ⟨0, _, rv1, F0, rfl, hst3.out, habv.out⟩
 case round =>
  rename World => wo
  obtain ⟨at', row, rv, F, rfl, hS⟩ := hrel
  obtain ⟨ra, rca, rfl⟩ := own_shape hS.out.1.me.r2
  have cr := hS.out.1.cellR
  have hrl : row.length ≤ 100 := by have := hS.out.2.rk.len; omega
  by_cases hlt : at' < row.length
  ·have hltI : (at' : Int) < (row.length : Int) := by omega
   obtain ⟨g, gc, hg⟩ := own_some hS.out.1.me.r2 (by omega)
   injection hg with hg1 hg2 hg3
   subst hg1 hg3
   have ci := own_int hS.out.1.me.r2 hlt
   obtain ⟨k, hk⟩ : ∃ k, row[at'] = k := ⟨_, rfl⟩
   rw [hk] at ci
   have hkl : k < all.length := hS.out.2.rk.lt k (hk ▸ List.getElem_mem hlt)
   have hkI : (k : Int) < (all.length : Int) := by omega
   have hdo := hdW.out wo hS.out.1.hb
   obtain ⟨rv0', hsp⟩ := hdo.spc
   have d1 : wo.cell? ⟨b1, 0, none⟩ = some (.pointer (some ⟨P, 0, none⟩)) := by simp [World.cell?, hS.out.1.x1]
   have d2 : wo.cell? ⟨P, 0, none⟩ = some (.slice (some ⟨ab, ao, none⟩) all.length ac) := by simp [World.cell?, hsp]
   obtain ⟨ab', ao', ac', eav, -, hce⟩ := hdo.av_
   injection eav with ea1 ea2 ea3
   injection ea1 with ea1
   injection ea1 with ea1 ea4
   subst ea1 ea4
   obtain ⟨p, q, sv, tv, hCE, hp, hq, hs5, ht6⟩ := (hdo.ce k hkl).ex
   generalize hX : all[k] = X at hCE hp hq hs5 ht6
   have hXH : Hid (all[k]? = some X) := by show _ = _; rw [List.getElem?_eq_getElem hkl, hX]
   obtain ⟨pa, pc, rfl⟩ := hp.form
   obtain ⟨qa, qc, rfl⟩ := hq.form
   obtain ⟨sa, sc, rfl⟩ := hs5.form
   obtain ⟨ta, tc, rfl⟩ := ht6.form
   have hrg := (hce k hkl).2
   rw [hCE] at hrg
   have e0 := hrg 0 _ rfl
   have e1 := hrg 1 _ rfl
   have e2 := hrg 2 _ rfl
   have e3 := hrg 3 _ rfl
   have e4 := hrg 4 _ rfl
   have e5 := hrg 5 _ rfl
   have e6 := hrg 6 _ rfl
   simp only [Nat.add_zero] at e0
   generalize X.ifs.length = np at *
   generalize X.perms.length = nq at *
   generalize X.fields.length = ns at *
   generalize X.meths.length = nt at *
   have hkH : Hid (row[at'] = k ∧ k < all.length) := ⟨hk, hkl⟩
   have hCEH : Hid (CE k = #[.string X.name, .string X.super, .slice pa np pc, .int .i64 X.flags, .slice qa nq qc, .slice sa ns sc, .slice ta nt tc]) := hCE
   clear hp hq hs5 ht6 hrg hce hsp hdo hk hCE hX hkl
   have hz : ∀ {a : Addr} {v : Value}, wo.cell? a = some v → (wo.alloc (.cells #[.string ⟨#[]⟩, .string ⟨#[]⟩, .slice none 0 0, .int .i64 0, .slice none 0 0, .slice none 0 0, .slice none 0 0] 49)).cell? a = some v := fun {a v} h => (World.grownBy_alloc wo _ none).cell h (by simp)
   have zcr := hz cr
   have zci := hz ci
   have zd1 := hz d1
   have zd2 := hz d2
   have ze0 := hz e0
   have ze1 := hz e1
   have ze2 := hz e2
   have ze3 := hz e3
   have ze4 := hz e4
   have ze5 := hz e5
   have ze6 := hz e6
   clear hz
   gi_wp2
   gi_region
   have hbox : Below wo.heap.size wo (wo.alloc (.cells #[.string X.name, .string X.super, .slice pa np pc, .int .i64 X.flags, .slice qa nq qc, .slice sa ns sc, .slice ta nt tc] 49)).drew := (below_1 _ _).drew
   have hbx : (wo.alloc (.cells #[.string X.name, .string X.super, .slice pa np pc, .int .i64 X.flags, .slice qa nq qc, .slice sa ns sc, .slice ta nt tc] 49)).drew.heap[wo.heap.size]? = some (.cells #[.string X.name, .string X.super, .slice pa np pc, .int .i64 X.flags, .slice qa nq qc, .slice sa ns sc, .slice ta nt tc] 49 (0, 0)) := heap_alloc_new wo _
   generalize (wo.alloc (.cells #[.string X.name, .string X.super, .slice pa np pc, .int .i64 X.flags, .slice qa nq qc, .slice sa ns sc, .slice ta nt tc] 49)).drew = W4 at *
   have b0 : W4.cell? ⟨wo.heap.size, 0, none⟩ = some (.string X.name) := by simp [World.cell?, hbx]
   have b1' : W4.cell? ⟨wo.heap.size, 1, none⟩ = some (.string X.super) := by simp [World.cell?, hbx]
   have b2' : W4.cell? ⟨wo.heap.size, 2, none⟩ = some (.slice pa np pc) := by simp [World.cell?, hbx]
   have b3' : W4.cell? ⟨wo.heap.size, 3, none⟩ = some (.int .i64 X.flags) := by simp [World.cell?, hbx]
   have b4' : W4.cell? ⟨wo.heap.size, 4, none⟩ = some (.slice qa nq qc) := by simp [World.cell?, hbx]
   have b5' : W4.cell? ⟨wo.heap.size, 5, none⟩ = some (.slice sa ns sc) := by simp [World.cell?, hbx]
   have b6' : W4.cell? ⟨wo.heap.size, 6, none⟩ = some (.slice ta nt tc) := by simp [World.cell?, hbx]
   have hIt4 : Hid (ItS J W W4 nB all.length b1 b2 P s mb mr rb (.slice (some ⟨g, 0, none⟩) row.length rca) F (R.take at') row) := hS.out.1.on hJH.out.1 hbox hnB
   have hboxH : Hid (W4.heap[wo.heap.size]? = some (.cells #[.string X.name, .string X.super, .slice pa np pc, .int .i64 X.flags, .slice qa nq qc, .slice sa ns sc, .slice ta nt tc] 49 (0, 0)) ∧ wo.heap.size < W4.heap.size) := ⟨hbx, lt_of hbx⟩
   have hpre : R.take at' ++ [k] = R.take (at' + 1) := by
    obtain ⟨t, ht⟩ := hS.out.2.pre
    have h1 : R[at']? = some k := by
     rw [← ht, List.getElem?_append_left hlt, List.getElem?_eq_getElem hlt, hkH.out.1]
    rw [List.take_add_one, h1]; rfl
   have hpreH : Hid (R.take at' ++ [k] = R.take (at' + 1)) := hpre
   obtain ⟨fn, tmps, assign, body, hy, hR⟩ := hYH.out F _ k W4 hIt4.out.jf (hWn.out.trans hIt4.out.hb) (by rw [hpre]; exact List.take_prefix _ _)
   rw [hCEH.out] at hy
   clear hbox hbx zcr zci zd1 zd2 ze0 ze1 ze2 ze3 ze4 ze5 ze6 cr ci d1 d2 e0 e1 e2 e3 e4 e5 e6 hpre
   gi_wp2
   refine ⟨fun h => by simp [Fence.wide] at h, hR.mono ?_⟩
   clear b0 b1' b2' b3' b4' b5' b6' hy
   rintro e W5 (⟨rfl, F5, hj5, hs5⟩ | ⟨rfl, F5, hj5, hs5⟩)
   ·have hIt5 : Hid (ItS J W W5 nB all.length b1 b2 P s mb mr rb (.slice (some ⟨g, 0, none⟩) row.length rca) F5 (R.take (at' + 1)) row) := by
     have := hIt4.out.round hJH.out.1 hnB hj5 hs5
     rw [hpreH.out] at this; exact this
    have hb5 : W5.heap[wo.heap.size]? = some (.cells #[.string X.name, .string X.super, .slice pa np pc, .int .i64 X.flags, .slice qa nq qc, .slice sa ns sc, .slice ta nt tc] 49 (0, 0)) := (hs5.kp.block _ ⟨hboxH.out.2, fun q => by have := hJH.out.1.lt hS.out.1.jf _ q; omega⟩).trans hboxH.out.1
    have b0 : W5.cell? ⟨wo.heap.size, 0, none⟩ = some (.string X.name) := by simp [World.cell?, hb5]
    have b1' : W5.cell? ⟨wo.heap.size, 1, none⟩ = some (.string X.super) := by simp [World.cell?, hb5]
    have b2' : W5.cell? ⟨wo.heap.size, 2, none⟩ = some (.slice pa np pc) := by simp [World.cell?, hb5]
    have b3' : W5.cell? ⟨wo.heap.size, 3, none⟩ = some (.int .i64 X.flags) := by simp [World.cell?, hb5]
    have b4' : W5.cell? ⟨wo.heap.size, 4, none⟩ = some (.slice qa nq qc) := by simp [World.cell?, hb5]
    have b5' : W5.cell? ⟨wo.heap.size, 5, none⟩ = some (.slice sa ns sc) := by simp [World.cell?, hb5]
    have b6' : W5.cell? ⟨wo.heap.size, 6, none⟩ = some (.slice ta nt tc) := by simp [World.cell?, hb5]
    have hd5 := hdW.out W5 hIt5.out.hb
    have hx5 := hd5.ce k hkH.out.2
    rw [hCEH.out] at hx5
    have hx5H : Hid (ClsV nB W5 #[.string X.name, .string X.super, .slice pa np pc, .int .i64 X.flags, .slice qa nq qc, .slice sa ns sc, .slice ta nt tc] (all[k]'hkH.out.2) ∧ nB ≤ W5.heap.size) := ⟨hx5, hd5.lt.2.2⟩
    clear hj5 hs5 hb5 hx5 hd5
    gi_wp2
    refine ⟨trivial, fun h => by simp [Fence.wide] at h, ?_⟩
    refine (callsIn_wide.2 (parents_calls _ (all[k]'hkH.out.2) W5 nB hx5H.out.2 hx5H.out.1 (hokH.out.ifs _ (List.getElem_mem _)))).mono ?_
    clear b0 b1' b2' b3' b4' b5' b6'
    rintro e W6 ⟨⟨gp, cp, rfl, hst6⟩, hb6⟩
    have hpsz : Hid (∀ x ∈ parL (all[k]'hkH.out.2), x.size ≤ 1048576) := hokH.out.psz _ (List.getElem_mem _)
    have hpar : Hid (parK all k = parL (all[k]'hkH.out.2)) := parK_get hkH.out.2
    have hplen : (parL (all[k]'hkH.out.2)).length ≤ 1048577 := by
     have := hokH.out.ifs _ (List.getElem_mem hkH.out.2)
     simp only [parL, List.length_cons]; omega
    generalize hPR : parL (all[k]'hkH.out.2) = PR at *
    have hIt6 : Hid (ItS J W W6 nB all.length b1 b2 P s mb mr rb (.slice (some ⟨g, 0, none⟩) row.length rca) F5 (R.take (at' + 1)) row) := hIt5.out.on hJH.out.1 hb6 hnB
    have hst6H : Hid (StrO nB W6 (.slice (some ⟨gp, 0, none⟩) PR.length cp) PR) := own_mono hst6 hx5H.out.2
    clear hst6 hb6 hPR
    gi_wp2
    gi_loopw [44] (fun i wr => ∃ (m : Nat) (rv : Value), i = .int .i64 m ∧ m ≤ PR.length ∧ Hid (ItS J W wr nB all.length b1 b2 P s mb mr rb rv F5 (R.take (at' + 1)) (meetsL all row (PR.take m)) ∧ StrO nB wr (.slice (some ⟨gp, 0, none⟩) PR.length cp) PR)) (fun i _ => 1048578 - (intOf i).toNat)
    case atStart => exact ⟨0, _, rfl, Nat.zero_le _, hIt6.out, hst6H.out⟩
    case round =>
     rename World => wi
     obtain ⟨m, rvi, rfl, hm, hi⟩ := hrel
     by_cases hml : m < PR.length
     ·have hmlI : (m : Int) < (PR.length : Int) := by omega
      have cm := hi.out.2.cell hml
      have cx : wi.cell? ⟨b1, 0, none⟩ = some (.pointer (some ⟨P, 0, none⟩)) := by simp [World.cell?, hi.out.1.x1]
      gi_wp2
      refine ⟨trivial, fun h => by simp [Fence.wide] at h, ?_⟩
      refine (callsIn_wide.2 (meet_calls PR[m] wi nB P all _ ov M J0 R0 rc D CE b1 mb mr rb rvi _ (hdW.out wi hi.out.1.hb) hi.out.1.x1 hi.out.1.me (hpsz.out _ (List.getElem_mem hml)) hN (hS.out.2.rk.meets _))).mono ?_
      rintro e W7 ⟨rfl, ⟨rv7, hm7, hv7⟩, hk7⟩
      have hIt7 := hi.out.1.met hJH.out.1 hnB hm7 hv7 hk7
      rw [← meetsL_take hml] at hIt7
      have hst7 : StrO nB W7 (.slice (some ⟨gp, 0, none⟩) PR.length cp) PR := own_kept hi.out.2 fun g0 hg0 => by
       obtain ⟨c0, h1, _⟩ := own_tag hi.out.2 hg0
       obtain ⟨cur, hcu, _⟩ := hi.out.1.me.m2
       refine hk7.block g0 ⟨lt_of h1, tag_ne h1 hcu (by decide), tag_ne h1 hi.out.1.me.r1 (by decide), fun q => ?_⟩
       obtain ⟨c', h3, _⟩ := own_tag hi.out.1.me.r2 q
       exact tag_ne h1 h3 (by decide) rfl
      have hfin : Hid (ItS J W W7 nB all.length b1 b2 P s mb mr rb rv7 F5 (R.take (at' + 1)) (meetsL all row (PR.take (m + 1))) ∧ StrO nB W7 (.slice (some ⟨gp, 0, none⟩) PR.length cp) PR) := ⟨hIt7, hst7⟩
      clear hIt7 hst7 hm7 hv7 hk7 cm cx
      gi_wp2
      refine ⟨⟨m + 1, ?_⟩, ?_⟩
      ·exact ⟨rv7, rfl, by omega, hfin⟩
      ·show 1048578 - ((m : Int) + 1).toNat < 1048578 - (m : Int).toNat
       omega
     ·have hmlI : ¬ ((m : Int) < (PR.length : Int)) := by omega
      have hnext : Hid (ItS J W wi nB all.length b1 b2 P s mb mr rb rvi F5 (R.take (at' + 1)) (meetsL all row PR) ∧ Abv all R (at' + 1) (meetsL all row PR)) := by
       refine ⟨?_, ?_⟩
       ·have := hi.out.1
        rw [show PR.take m = PR from List.take_of_length_le (by omega)] at this
        exact this
       ·have := hS.out.2.next hlt
        rwa [hkH.out.1, hpar.out] at this
      gi_wp2
      refine ⟨⟨at' + 1, by simp, _, _, _, hnext⟩, ?_⟩
      show 101 - ((at' : Int) + 1).toNat < 101 - (at' : Int).toNat
      omega
   ·have hend : Hid (Below nB W W5 ∧ Jx F5 (R.take (at' + 1)) W5) := by
     refine ⟨?_, by rw [← hpreH.out]; exact hj5⟩
     exact hIt4.out.hb.trans ⟨hs5.kp.os, hs5.kp.tape, hs5.kp.output, hs5.kp.size, fun k hlt => hs5.kp.block k ⟨by have := hIt4.out.hs; omega, fun q => by have := (hIt4.out.fo k q).1; omega⟩⟩
    gi_wp2
    exact bodyPost_ret (results_none rfl _ _ _) rfl ⟨⟨_, rfl⟩, hend.out.1, .inr ⟨_, F5, List.take_prefix _ _, hend.out.2⟩⟩
  ·have hltI : ¬ ((at' : Int) < (row.length : Int)) := by omega
   have hdone := hS.out.2.done (by omega)
   have hJR : Hid (J F R wo ∧ Below nB W wo) := by
    refine ⟨?_, hS.out.1.hb⟩
    have := hS.out.1.jf
    rw [List.take_of_length_le (by rw [← hdone]; omega)] at this
    exact this
   clear hdone
   gi_wp2
   go_end0
   exact ⟨⟨_, rfl⟩, hJR.out.2, .inl ⟨F, hJR.out.1⟩⟩
end Go.Proofs.YtjjccimeikkogaaGreatDoor
