/- The program's step over the specification's states: who can go on, and what is acted. -/
import Derived.Test.YtknbchheoloaoaaGreatSaC
import Derived.Deep.Upon
import Derived.Laws.BitsAllLaws
import Derived.Laws.ShiftsVarLaws
namespace Go.Proofs.YtknbchheoloaoaaGreat
set_option linter.unusedVariables false
open Go.ChangeShapes Go.WideShapes Go.ChangeAt Go.RowKit
structure MsS (x : LitL) (s : S11) (ms : List Int) : Prop where
 len : ms.length = 22
 nxt : Nxt ms x.thr.length (pcOf s) (pcOf s)
theorem Wf.pc {x : LitL} {s : S11} (ho : OkL x) (hw : Wf x s) {t : Nat} (h : t < x.thr.length) : pcOf s t ≤ 4 ∧ pcOf s t ≤ (x.thr[t]).length ∧ (x.thr[t]).length ≤ 4 := by
 have h1 : t < s.pcs.length := by rw [hw.lp]; exact h
 have h2 := hw.pn t h1 h
 have h3 := ho.len _ (List.getElem_mem h)
 have e : pcOf s t = (s.pcs[t]).toNat := by unfold pcOf; rw [List.getD_eq_getElem?_getD, List.getElem?_eq_getElem h1]; rfl
 omega
theorem acted_calls {x : LitL} (ho : OkL x) {s : S11} (hw : Wf x s) (g t : Nat) (a : ActL) (ms : List Int) (ta : Option Addr) (tc : Nat) (w : World) (lo hi : Nat) (hh : hi ≤ w.heap.size) (hx : ListAt ThrR 1 true lo hi w (.slice ta x.thr.length tc) x.thr) (hg : g < w.heap.size) (hc : w.rangeAt g 0 [.int .i64 x.vars, .int .i64 x.vol, .int .i64 x.locks, .slice ta x.thr.length tc, .bool false]) (ha : actAt x t (pcOf s t) = some a) (hm : MsS x s ms) :
  Calls Tryz.prog 52 #[.pointer (some ⟨g, 0, none⟩), .agg (MV ms).toArray, .int .i64 (t : Int)] w fun e w' => ∃ ms', e = .returned (.agg (MV ms').toArray) ∧ MsS x (actS s t a) ms' ∧ Below w.heap.size w w' := by
 obtain ⟨acts, e1, e2⟩ := actAt_some ha
 have hva := actC_var (ho.act acts (List.mem_of_getElem? e1) a (List.mem_of_getElem? e2))
 obtain ⟨ht, e1⟩ := List.getElem?_eq_some_iff.1 e1
 obtain ⟨hk, e2⟩ := List.getElem?_eq_some_iff.1 e2
 have hpc := Wf.pc ho hw ht
 have hn1 := ho.n1
 have hv1 := ho.v1
 have hl4 : acts.length ≤ 4 := by rw [← e1]; exact hpc.2.2
 obtain ⟨p, hp⟩ : ∃ p, p = pcOf s t := ⟨_, rfl⟩
 have hp3 : p ≤ 3 := by omega
 have h1 := (hm.nxt t ht).1
 have h2 := (hm.nxt t ht).2
 have hpos : ∀ ms' : List Int, ms'.length = 22 → (∀ j, j < 6 → ms'[j]? = ((ms.set t ((p : Int) + 1)).set (3 + t) ((p : Int) + 1))[j]?) → MsS x (actS s t a) ms' := fun ms' hl hj => by
  refine ⟨hl, fun u hu => ?_⟩
  have hlen := hm.len
  rw [hj u (by omega), hj (3 + u) (by omega), pcOf_act hw ht a u]
  by_cases e : u = t
  ·subst e
   rw [if_pos rfl, ← hp]
   refine ⟨?_, ?_⟩
   ·rw [List.getElem?_set_ne (by omega), List.getElem?_set_self (by omega)]; rfl
   ·rw [List.getElem?_set_self (by simp; omega)]; rfl
  ·rw [if_neg e]
   refine ⟨?_, ?_⟩
   ·rw [List.getElem?_set_ne (by omega), List.getElem?_set_ne (by omega)]; exact (hm.nxt u hu).1
   ·rw [List.getElem?_set_ne (by omega), List.getElem?_set_ne (by omega)]; exact (hm.nxt u hu).2
 rw [← hp] at h1 h2 ha
 obtain ⟨k, v, n⟩ := a
 have fin : Calls Tryz.prog 52 #[.pointer (some ⟨g, 0, none⟩), .agg (MV ms).toArray, .int .i64 (t : Int)] w (fun e w' => ∃ ms', e = .returned (.agg (MV ms').toArray) ∧ ms'.length = 22 ∧ (∀ j, j < 6 → ms'[j]? = ((ms.set t ((p : Int) + 1)).set (3 + t) ((p : Int) + 1))[j]?) ∧ Below w.heap.size w w') := by
  rcases hva.2.2 with h | h | h | h | h
  ·have hb := hva.1 (.inl h)
   obtain ⟨m, rfl⟩ : ∃ m : Nat, v = m := ⟨v.toNat, by have := hb.1; simp only at this; omega⟩
   simp only at h; subst h
   exact acted_read x g t p m n (by have := hb.2; simp only at this; omega) ms ta tc w lo hi hh hx hg hc (by omega) hp3 ha hm.len h1 h2
  ·have hb := hva.1 (.inr (.inl h))
   obtain ⟨m, rfl⟩ : ∃ m : Nat, v = m := ⟨v.toNat, by have := hb.1; simp only at this; omega⟩
   simp only at h; subst h
   exact acted_write x g t p m n (by have := hb.2; simp only at this; omega) ms ta tc w lo hi hh hx hg hc (by omega) hp3 ha hm.len h1 h2
  ·have hb := hva.1 (.inr (.inr h))
   obtain ⟨m, rfl⟩ : ∃ m : Nat, v = m := ⟨v.toNat, by have := hb.1; simp only at this; omega⟩
   simp only at h; subst h
   exact acted_pass x g t p m n (by have := hb.2; simp only at this; omega) ms ta tc w lo hi hh hx hg hc (by omega) hp3 ha hm.len h1 h2
  ·exact acted_lock x g t p k v n (.inl h) ms ta tc w lo hi hh hx hg hc (by omega) hp3 ha hm.len h1 h2
  ·exact acted_lock x g t p k v n (.inr h) ms ta tc w lo hi hh hx hg hc (by omega) hp3 ha hm.len h1 h2
 exact fin.mono fun e w' ⟨ms', h1, h2, h3, h4⟩ => ⟨ms', h1, hpos ms' h2 h3, h4⟩
theorem canGo_calls {x : LitL} (ho : OkL x) {s : S11} (hw : Wf x s) (hl : Lk x s) (g gm t : Nat) (ms : List Int) (ta : Option Addr) (tc : Nat) (w : World) (lo hi : Nat) (hh : hi ≤ w.heap.size) (hx : ListAt ThrR 1 true lo hi w (.slice ta x.thr.length tc) x.thr) (hg : g < w.heap.size) (hgm : gm < w.heap.size) (hc : w.rangeAt g 0 [.int .i64 x.vars, .int .i64 x.vol, .int .i64 x.locks, .slice ta x.thr.length tc]) (hm : MomW w gm ms) (hs : MsS x s ms) (ht : t < x.thr.length) :
  Calls Tryz.prog 50 #[.pointer (some ⟨g, 0, none⟩), .pointer (some ⟨gm, 0, none⟩), .int .i64 (t : Int)] w fun e w' => e = .returned (.bool (pickS x s (t : Int)).isSome) ∧ Below w.heap.size w w' := by
 have hpc := Wf.pc ho hw ht
 have hpick : pickS x s (t : Int) = (match actAt x t (pcOf s t) with | none => none | some a => if canA s a = true then some a else none) := by
  unfold pickS
  rw [if_pos ⟨by omega, by omega⟩]
  rfl
 cases ha : actAt x t (pcOf s t) with
 | none =>
  have hpe : pcOf s t = (x.thr[t]).length := by
   unfold actAt at ha
   rw [List.getElem?_eq_getElem ht] at ha
   have := List.getElem?_eq_none_iff.1 ha
   omega
  rw [hpick, ha]
  exact canGoOn_no x g gm t _ ta tc w lo hi hh hx hg hgm (hc 3 _ rfl) ho.n1 ht hpc.1 (hm.at (hs.nxt t ht).1) hpe
 | some a =>
  have hv : (pickS x s (t : Int)).isSome = canA s a := by
   rw [hpick, ha]
   show (if canA s a = true then some a else none).isSome = _
   cases h : canA s a <;> simp
  rw [hv, can_free ho hl ha]
  refine (canGoOn_calls x a g gm t (pcOf s) ta tc w lo hi hh hx hg hgm hc ho.n1 (fun u hu => ⟨hm.at (hs.nxt u hu).1, Wf.pc ho hw hu⟩) (fun u hu => hm.at (hs.nxt u hu).2) ha).mono fun e w' ⟨h1, h2⟩ => ⟨?_, h2⟩
  rw [h1, frB_free]
  congr 2
  by_cases h : a.kind = 4
  ·simp [isL, h]
  ·have h' : (a.kind == 4) = false := by simpa using h
   simp [bne, h']
end Go.Proofs.YtknbchheoloaoaaGreat

/- The program's run along picks. -/
namespace Go.Proofs.YtknbchheoloaoaaGreat
set_option linter.unusedVariables false
open Go.ChangeShapes Go.WideShapes Go.ChangeAt Go.RowKit
theorem cell_new2 (w : World) (x y : Value) (t : TypeId) : ∀ j u, ([x, y] : List Value)[j]? = some u → (w.alloc (.cells #[x, y] t)).cell? ((⟨w.heap.size, 0, none⟩ : Addr).add j) = some u := fun j u hu => by
 have e := heap_alloc_new w (.cells #[x, y] t)
 rw [Addr.add_mid]
 simp only [World.cell?, e, Nat.zero_add]
 match j, hu with
 | 0, hu => simpa using hu
 | 1, hu => simpa using hu
 | j + 2, hu => simp at hu
theorem elemD : ∃ i, Tryz.prog.info? 53 = some i ∧ i.zero = some (.agg #[.int .i64 0, .int .i64 0]) ∧ i.size = 2 ∧ i.bytes = 16 := by
 obtain ⟨i0, hi0⟩ : ∃ i, Tryz.prog.info? 53 = some i := Option.isSome_iff_exists.1 (by kernel_rfl)
 have hz : (Tryz.prog.info? 53).bind (·.zero) = some (.agg #[.int .i64 0, .int .i64 0]) := by kernel_rfl
 refine ⟨i0, hi0, ?_, ?_, ?_⟩
 ·rw [hi0] at hz; exact hz
 ·have : (Tryz.prog.info? 53).map (·.size) = some 2 := by kernel_rfl
  rw [hi0] at this; exact Option.some.inj this
 ·have : (Tryz.prog.info? 53).map (·.bytes) = some 16 := by kernel_rfl
  rw [hi0] at this; exact Option.some.inj this
set_option maxRecDepth 100000 in
theorem ibtw_calls (a lo hi : Int) (w : World) : Calls Tryz.prog 47 #[.int .i64 a, .int .i64 lo, .int .i64 hi] w fun e w' => e = .returned (.bool (btw a lo hi)) ∧ w' = w := by
 go_enter Tryz.func47, Tryz.ntmps47
 by_cases h1 : lo ≤ a
 ·by_cases h2 : a ≤ hi
  ·go_wp2
   go_ret
   exact ⟨by simp [btw, h1, h2], rfl⟩
  ·have h3 : hi < a := by omega
   go_wp2
   go_ret
   exact ⟨by simp [btw, h1, h2], rfl⟩
 ·have h3 : a < lo := by omega
  go_wp2
  go_ret
  exact ⟨by rw [btw, decide_eq_false (by omega : ¬ lo ≤ a)]; rfl, rfl⟩
def doneV (ds : List DoneL) : List Value := ds.flatMap fun d => [.int .i64 (d.t : Int), .int .i64 (d.k : Int)]
theorem doneV_snoc (ds : List DoneL) (d : DoneL) : doneV (ds ++ [d]) = doneV ds ++ [.int .i64 (d.t : Int), .int .i64 (d.k : Int)] := by simp [doneV]
structure FolW (w wr : World) (M : Nat) (ms : List Int) (v : Value) (ds : List DoneL) : Prop where
 hb : Below w.heap.size w wr
 mom : MomW wr M ms
 own : wr.ownsRow w.heap.size 53 2 v ds.length (doneV ds)
 lo : w.heap.size ≤ M
 hi : M < wr.heap.size
 ap : v.ownBlock ≠ some M
theorem FolW.on {w wr w' : World} {M : Nat} {ms : List Int} {v : Value} {ds : List DoneL} (h : FolW w wr M ms v ds) (hb : Below wr.heap.size wr w') : FolW w w' M ms v ds :=
 ⟨below_on h.hb hb, h.mom.on h.hi hb, own_below h.own hb (fun g hg => (World.ownsRow.lt h.own g hg).2), h.lo, Nat.lt_of_lt_of_le h.hi hb.size, h.ap⟩
theorem FolW.alloc {w wr : World} {M : Nat} {ms : List Int} {v : Value} {ds : List DoneL} (h : FolW w wr M ms v ds) (o : Obj) : FolW w (wr.alloc o) M ms v ds := h.on (below_1 _ _)
theorem FolW.app {w wr w' : World} {M : Nat} {ms : List Int} {v v' : Value} {ds : List DoneL} {d : DoneL} (h : FolW w wr M ms v ds) (h1 : w'.ownsRow w.heap.size 53 2 v' (ds.length + 1) (doneV ds ++ [.int .i64 (d.t : Int), .int .i64 (d.k : Int)])) (hg : wr.grownBy w' v.ownBlock) (h4 : v'.ownBlock = v.ownBlock ∨ v'.ownBlock = some wr.heap.size) : FolW w w' M ms v' (ds ++ [d]) := by
 have hne : some M ≠ v.ownBlock := fun e => h.ap e.symm
 have e := hg.block M h.hi hne
 refine ⟨h.hb.grown hg h.hb.size (fun k e => (World.ownsRow.lt h.own k e).1), ⟨fun j u hj => (World.cell?_of_block (w := wr) (a := ⟨M, 0 + j, none⟩) e).trans (h.mom.row j u hj), fun j hj => ?_, h.mom.len⟩, by rw [doneV_snoc, List.length_append]; exact h1, h.lo, Nat.lt_of_lt_of_le h.hi hg.size, ?_⟩
 ·rw [World.cell?_of_block (w := wr) (a := ⟨M, 0 + j, none⟩) e, World.frozen?_of_block (w := wr) (a := ⟨M, 0 + j, none⟩) e]
  exact h.mom.room j hj
 ·rcases h4 with h4 | h4
  ·rw [h4]; exact h.ap
  ·rw [h4]; intro q; have := h.hi; cases q; omega
theorem FolW.sto {w wr : World} {M : Nat} {ms ms' : List Int} {v : Value} {ds : List DoneL} (h : FolW w wr M ms v ds) (hl : ms'.length = 22) : FolW w (wr.setCells M 0 (MV ms')) M ms' v ds := by
 have hlen : (MV ms').length = 22 := by simp [MV, hl]
 have blk : ∀ k, k < wr.heap.size → k ≠ M → (wr.setCells M 0 (MV ms')).heap[k]? = wr.heap[k]? := fun k hl hk => World.heap_setCells_other wr M 0 (MV ms') hl hk
 refine ⟨below_setCells M h.lo (MV ms') 0 wr h.hb, ⟨World.rangeAt_setCells_same wr M 0 (MV ms') (by rw [hlen]; exact h.mom.room), fun j hj => ?_, hl⟩, own_kept h.own (fun g hg => blk g (World.ownsRow.lt h.own g hg).2 (fun e => h.ap (by rw [hg, e]))), h.lo, Nat.lt_of_lt_of_le h.hi (below_setCells (B := 0) (a := wr) M (Nat.zero_le _) (MV ms') 0 wr (Below.refl _ _)).size, h.ap⟩
 have h1 := h.mom.room j hj
 refine ⟨?_, (World.frozen?_setCells M (MV ms') 0 wr _).trans h1.2⟩
 have := World.rangeAt_setCells_same wr M 0 (MV ms') (by rw [hlen]; exact h.mom.room) j ((MV ms')[j]'(by omega)) (List.getElem?_eq_getElem (by omega))
 rw [this]; rfl
end Go.Proofs.YtknbchheoloaoaaGreat

/- The program's run along picks: course.follow. -/
namespace Go.Proofs.YtknbchheoloaoaaGreat
set_option linter.unusedVariables false
open Go.ChangeShapes Go.WideShapes Go.ChangeAt Go.RowKit
structure FolS (x : LitL) (s : S11) (ms : List Int) (ds R : List DoneL) (zs : List Int) (m : Nat) : Prop where
 ms : MsS x s ms
 wf : Wf x s
 lk : Lk x s
 len : ds.length ≤ m
 ans : R = ds ++ runS x s (zs.drop m)
theorem FolS.no {x : LitL} {s : S11} {ms : List Int} {ds R : List DoneL} {zs : List Int} {m : Nat} (h : FolS x s ms ds R zs m) (hm : m < zs.length) (hp : pickS x s zs[m] = none) : FolS x s ms ds R zs (m + 1) := by
 refine ⟨h.ms, h.wf, h.lk, Nat.le_succ_of_le h.len, ?_⟩
 rw [h.ans, List.drop_eq_getElem_cons hm, runS, hp]
theorem FolS.yes {x : LitL} {s : S11} {ms ms' : List Int} {ds R : List DoneL} {zs : List Int} {m : Nat} (ho : OkL x) (hf : ∀ acts ∈ x.thr, okFrom [] acts = true) (h : FolS x s ms ds R zs m) (hm : m < zs.length) {t : Nat} {a : ActL} (hz : zs[m] = (t : Int)) (hp : pickS x s (t : Int) = some a) (hms : MsS x (actS s t a) ms') : FolS x (actS s t a) ms' (ds ++ [⟨t, pcOf s t⟩]) R zs (m + 1) := by
 obtain ⟨h1, h2, h3⟩ := pickS_some hp
 rw [show (t : Int).toNat = t from rfl] at h2
 refine ⟨hms, wf_act ho h.wf h2, lk_act ho hf h.wf h.lk h2 h3, by simp; exact h.len, ?_⟩
 rw [h.ans, List.drop_eq_getElem_cons hm, runS, hz, hp, List.append_assoc]
 rfl
set_option maxRecDepth 1000000 in
set_option maxHeartbeats 8000000 in
theorem follow_calls {x : LitL} (ho : OkL x) (hf : ∀ acts ∈ x.thr, okFrom [] acts = true) (g : Nat) (ta : Option Addr) (tc : Nat) (za : Option Addr) (zc : Nat) (zs : List Int) (w : World) (lo hi lo2 hi2 : Nat) (hh : hi ≤ w.heap.size) (hh2 : hi2 ≤ w.heap.size) (hx : ListAt ThrR 1 true lo hi w (.slice ta x.thr.length tc) x.thr) (hz : ListAt IntR 1 true lo2 hi2 w (.slice za zs.length zc) zs) (hzl : zs.length ≤ 4000) (hg : g < w.heap.size) (hc : w.rangeAt g 0 [.int .i64 x.vars, .int .i64 x.vol, .int .i64 x.locks, .slice ta x.thr.length tc, .bool false]) :
  Calls Tryz.prog 26 #[.pointer (some ⟨g, 0, none⟩), .slice za zs.length zc] w fun e w' => ∃ v, e = .returned v ∧ w'.ownsRow w.heap.size 53 2 v (runS x (startS x.thr.length x.vars.toNat) zs).length (doneV (runS x (startS x.thr.length x.vars.toNat) zs)) ∧ Below w.heap.size w w' := by
 obtain ⟨i2, hi2', hz2, hs2, hbb2⟩ := elemD
 obtain ⟨R, hR⟩ : ∃ R, R = runS x (startS x.thr.length x.vars.toNat) zs := ⟨_, rfl⟩
 rw [← hR]
 have hR0 : Hid (FolS x (startS x.thr.length x.vars.toNat) (List.replicate 22 0) [] R zs 0) := by
  refine ⟨⟨by simp, fun t ht => ?_⟩, wf_start ho, lk_start x _ _, Nat.le_refl _, by rw [hR]; rfl⟩
  have hn1 := ho.n1
  have e : pcOf (startS x.thr.length x.vars.toNat) t = 0 := by
   unfold pcOf startS
   simp only [List.getD_eq_getElem?_getD, List.getElem?_replicate]
   split <;> rfl
  rw [e]
  exact ⟨by rw [List.getElem?_replicate, if_pos (by omega)]; rfl, by rw [List.getElem?_replicate, if_pos (by omega)]; rfl⟩
 clear hR
 have hoH : Hid (OkL x) := ho
 have hfH : Hid (∀ acts ∈ x.thr, okFrom [] acts = true) := hf
 have hn3 : (x.thr.length : Int) ≤ 3 := by have := ho.n1; omega
 have hn0 : (1 : Int) ≤ x.thr.length := by have := ho.n0; omega
 have hzl' : (zs.length : Int) ≤ 4000 := by omega
 have hc4 : Hid (∀ W, Below w.heap.size w W → W.rangeAt g 0 [.int .i64 x.vars, .int .i64 x.vol, .int .i64 x.locks, .slice ta x.thr.length tc]) := fun W hW j v hj => (hW.cell (p := ⟨g, 0 + j, none⟩) hg).trans (hc j v (by rcases j with _ | _ | _ | _ | j <;> simp at hj ⊢ <;> exact hj))
 have hc5 : Hid (∀ W, Below w.heap.size w W → W.rangeAt g 0 [.int .i64 x.vars, .int .i64 x.vol, .int .i64 x.locks, .slice ta x.thr.length tc, .bool false]) := fun W hW j v hj => (hW.cell (p := ⟨g, 0 + j, none⟩) hg).trans (hc j v hj)
 have htH : Hid (∀ W, Below w.heap.size w W → ListAt ThrR 1 true lo hi W (.slice ta x.thr.length tc) x.thr) := fun W hW => hx.kept ThrR.stable (Nat.le_refl _) (Nat.le_refl _) ((Same.below hW).mono (Nat.zero_le _) hh)
 have hzH : Hid (∀ W, Below w.heap.size w W → ListAt IntR 1 true lo2 hi2 W (.slice za zs.length zc) zs) := fun W hW => hz.kept IntR.stable (Nat.le_refl _) (Nat.le_refl _) ((Same.below hW).mono (Nat.zero_le _) hh2)
 have hszH : Hid (∀ W, Below w.heap.size w W → hi ≤ W.heap.size ∧ g < W.heap.size) := fun W hW => by have := hW.size; exact ⟨by omega, by omega⟩
 have hst : Hid (FolW w (w.alloc (.cells #[.int .i16 0, .int .i16 0, .int .i16 0, .int .i16 0, .int .i16 0, .int .i16 0, .int .i16 0, .int .i16 0, .int .i16 0, .int .i16 0, .int .i16 0, .int .i16 0, .int .i16 0, .int .i16 0, .int .i16 0, .int .i16 0, .int .i16 0, .int .i16 0, .int .i16 0, .int .i16 0, .int .i16 0, .int .i16 0] 97)) w.heap.size (List.replicate 22 0) (.slice none 0 0) []) :=
  ⟨below_1 _ _, momW_new (ms := List.replicate 22 0) (by simp) _, ⟨rfl, .inl ⟨rfl, rfl⟩⟩, Nat.le_refl _, by simp, by simp [Value.ownBlock]⟩
 clear hx hz hc ho hf hh hh2 hzl
 go_enter Tryz.func26, Tryz.ntmps26
 go_wp2_with fail
 generalize w.alloc (.cells #[.int .i16 0, .int .i16 0, .int .i16 0, .int .i16 0, .int .i16 0, .int .i16 0, .int .i16 0, .int .i16 0, .int .i16 0, .int .i16 0, .int .i16 0, .int .i16 0, .int .i16 0, .int .i16 0, .int .i16 0, .int .i16 0, .int .i16 0, .int .i16 0, .int .i16 0, .int .i16 0, .int .i16 0, .int .i16 0] 97) = W0 at *
 go_loopw [6, 12] (fun v i wr => ∃ (m : Nat) (s : S11) (ms : List Int) (ds : List DoneL), m ≤ zs.length ∧ i = .int .i64 m ∧ Hid (FolW w wr w.heap.size ms v ds) ∧ Hid (FolS x s ms ds R zs m)) (fun _ i _ => zs.length - (intOf i).toNat)
 case atStart => exact ⟨0, _, _, _, Nat.zero_le _, rfl, hst, hR0⟩
 case round =>
  clear hst hR0
  obtain ⟨m, s, ms, ds, hm, rfl, hF, hS⟩ := hrel
  obtain ⟨va, vc, rfl⟩ := own_form hF.out.own
  by_cases hlt : m < zs.length
  ·have hlt' : (m : Int) < (zs.length : Int) := by omega
   obtain ⟨zb, zo, row, rfl, hbb, hrl, hrr, hrd⟩ := (hzH.out wr hF.out.hb).at m hlt
   have q1 : wr.cell? ⟨zb, zo + m, none⟩ = some (.int .i64 zs[m]) := by rw [hrd] at hrr; simpa using hrr 0 _ rfl
   have q3 : wr.cell? ⟨g, 3, none⟩ = some (.slice ta x.thr.length tc) := hc4.out wr hF.out.hb 3 _ rfl
   clear hrr hrd hrl hbb
   by_cases hbt : 0 ≤ zs[m] ∧ zs[m] ≤ (x.thr.length : Int) - 1
   ·obtain ⟨t, ht⟩ : ∃ t : Nat, zs[m] = (t : Int) := ⟨zs[m].toNat, by omega⟩
    have hbtw : btw (t : Int) 0 ((x.thr.length : Int) - 1) = true := by rw [ht] at hbt; simp [btw]; omega
    have htl : Hid (t < x.thr.length) := by show _ < _; omega
    have hcan : Hid (Calls Tryz.prog 50 #[.pointer (some ⟨g, 0, none⟩), .pointer (some ⟨w.heap.size, 0, none⟩), .int .i64 (t : Int)] wr fun e w' => e = .returned (.bool (pickS x s (t : Int)).isSome) ∧ Below wr.heap.size wr w') :=
     canGo_calls hoH.out hS.out.wf hS.out.lk g w.heap.size t ms ta tc wr lo hi (hszH.out wr hF.out.hb).1 (htH.out wr hF.out.hb) (hszH.out wr hF.out.hb).2 hF.out.hi (hc4.out wr hF.out.hb) hF.out.mom hS.out.ms htl.out
    rw [ht] at q1
    clear hbt
    cases hp : pickS x s (t : Int) with
    | none =>
     rw [hp] at hcan
     have hS2 : Hid (FolS x s ms ds R zs (m + 1)) := hS.out.no hlt (by rw [ht]; exact hp)
     clear hS hp ht
     go_wp2_with (first
      | (go_at_call 47; refine (ibtw_calls _ _ _ _).mono ?_; rintro e wz ⟨rfl, rfl⟩; rw [hbtw])
      | (go_at_call 50; refine (show Calls _ _ _ _ _ from hcan.out).mono ?_; rintro e w2 ⟨rfl, hb2⟩; rw [show (none : Option ActL).isSome = false from rfl]))
     go_roundw
     case rel => exact ⟨m + 1, s, ms, ds, by omega, by go_num, hF.out.on (by assumption), hS2⟩
     case measure => simp [intOf]; omega
    | some a =>
     rw [hp] at hcan
     obtain ⟨hp1, hp2, hp3⟩ := pickS_some hp
     rw [show (t : Int).toNat = t from rfl] at hp2
     have hact : Hid (∀ W, Below w.heap.size w W → Calls Tryz.prog 52 #[.pointer (some ⟨g, 0, none⟩), .agg (MV ms).toArray, .int .i64 (t : Int)] W fun e w' => ∃ ms', e = .returned (.agg (MV ms').toArray) ∧ MsS x (actS s t a) ms' ∧ Below W.heap.size W w') := fun W hW =>
      acted_calls hoH.out hS.out.wf g t a ms ta tc W lo hi (hszH.out W hW).1 (htH.out W hW) (hszH.out W hW).2 (hc5.out W hW) hp2 hS.out.ms
     have hS2 : Hid (∀ ms', MsS x (actS s t a) ms' → FolS x (actS s t a) ms' (ds ++ [⟨t, pcOf s t⟩]) R zs (m + 1)) := fun ms' h => hS.out.yes hoH.out hfH.out hlt ht hp h
     have hpc := Wf.pc hoH.out hS.out.wf htl.out
     have hpc4 : (pcOf s t : Int) ≤ 4 := by omega
     have hpc0 : (0 : Int) ≤ (pcOf s t : Int) := by omega
     have hnx : Hid (∀ W, FolW w W w.heap.size ms (.slice va ds.length vc) ds → Calls Tryz.prog 51 #[.pointer (some ⟨w.heap.size, 0, none⟩), .int .i64 (t : Int)] W fun e w' => e = .returned (.int .i64 (pcOf s t : Int)) ∧ w' = W) := fun W hW =>
      next_calls w.heap.size t (pcOf s t : Int) W (by have := htl.out; omega) ⟨hpc0, hpc4⟩ (hW.mom.at (hS.out.ms.nxt t htl.out).1)
     have hdl : Hid (ds.length ≤ m) := hS.out.len
     have hml : Hid (ms.length = 22) := hS.out.ms.len
     obtain ⟨ln, hln⟩ : ∃ ln, ln = ds.length := ⟨_, rfl⟩
     have hlnH : Hid (ln = ds.length) := hln
     rw [← hln] at hF hnx ⊢
     have hln64 : ln ≤ 4000 := by have := hdl.out; omega
     generalize pcOf s t = pc at *
     clear hS hp ht hpc hp1 hp2 hp3 hln
     go_wp2_with (first
      | (go_at_call 47; refine (ibtw_calls _ _ _ _).mono ?_; rintro e wz ⟨rfl, rfl⟩; rw [hbtw])
      | (go_at_call 50; refine (show Calls _ _ _ _ _ from hcan.out).mono ?_; rintro e w2 ⟨rfl, hb2⟩; rw [show (some a).isSome = true from rfl]; have hF2 : Hid (FolW w w2 w.heap.size ms (.slice va ln vc) ds) := hF.out.on hb2; clear hb2)
      | (go_at_call 51; refine (show Calls _ _ _ _ _ from hnx.out _ hF2.out).mono ?_; rintro e wz ⟨rfl, rfl⟩)
      | (refine wpList_append_own_at _ rfl (.tmp 31) (.tmp 36) 27 rfl w.heap.size 53 i2 (.agg #[.int .i64 0, .int .i64 0]) 2 16 Tryz.underlying27 hi2' hz2 hs2 hbb2 rfl (by omega) _ ln (doneV ds) rfl (by have := (hF2.out.alloc (.cells #[.int .i64 (t : Int), .int .i64 (pc : Int)] 53)).own; rw [← hlnH.out] at this; exact this) ⟨_, 0, none⟩ 1 1 [.int .i64 (t : Int), .int .i64 (pc : Int)] rfl rfl (cell_new2 _ _ _ _) (by simp [Value.oneCell']) (by unfold maxLen; omega) (by omega) (by have := hF2.out.hb.size; simp; omega) ?_; intro v' w3 h1 h2 h3 h4; have hF3 : Hid (FolW w w3 w.heap.size ms v' (ds ++ [⟨t, pc⟩])) := (hF2.out.alloc (.cells #[.int .i64 (t : Int), .int .i64 (pc : Int)] 53)).app (d := ⟨t, pc⟩) (by rw [← hlnH.out]; exact h1) h2 h4; obtain ⟨va', vc', rfl⟩ := own_form h1; clear h1 h2 h3 h4)
      | (refine wpList_load_mid rfl 97 _ rfl w.heap.size 0 rfl (MV ms) _ hF3.out.mom.row Tryz.underlying97 rfl (by rw [show (MV ms).length = 22 by simp [MV, hml.out]]; kernel_rfl) ?_)
      | (go_at_call 52; refine (show Calls _ _ _ _ _ from hact.out _ hF3.out.hb).mono ?_; rintro e w4 ⟨ms', rfl, hms', hb4⟩; have hF4 : Hid (FolW w w4 w.heap.size ms (.slice va' (ln + 1) vc') (ds ++ [⟨t, pc⟩])) := hF3.out.on hb4; clear hb4)
      | (refine wpList_store_mid rfl 97 _ _ rfl w.heap.size 0 (MV ms').toArray rfl rfl (by rw [show (MV ms').toArray.size = 22 by simp [MV, hms'.len]]; exact hF4.out.mom.room) (by rw [show (MV ms').toArray.size = 22 by simp [MV, hms'.len]]; kernel_rfl) (all_oneCell_toArray (fun v hv => by simp only [MV, List.mem_map] at hv; obtain ⟨q, _, rfl⟩ := hv; rfl)) ?_; have hF5 : Hid (FolW w (w4.setCells w.heap.size 0 (MV ms').toArray.toList) w.heap.size ms' (.slice va' (ln + 1) vc') (ds ++ [⟨t, pc⟩])) := hF4.out.sto hms'.len; have hS5 := hS2.out ms' hms'; generalize w4.setCells w.heap.size 0 (MV ms').toArray.toList = W5 at *))
     go_roundw
     case rel => exact ⟨m + 1, _, ms', _, by omega, by go_num, hF5, hS5⟩
     case measure => simp [intOf]; omega
   ·have hbtw : btw zs[m] 0 ((x.thr.length : Int) - 1) = false := by
     rw [Bool.eq_false_iff]; intro q; simp [btw] at q; exact hbt ⟨q.1, by omega⟩
    have hS2 : Hid (FolS x s ms ds R zs (m + 1)) := hS.out.no hlt (by unfold pickS; rw [if_neg]; intro q; exact hbt ⟨q.1, by omega⟩)
    generalize zs[m] = z at *
    clear hbt hS
    go_wp2_with (first
      | (go_at_call 47; refine (ibtw_calls _ _ _ _).mono ?_; rintro e wz ⟨rfl, rfl⟩; rw [hbtw]))
    go_roundw
    case rel => exact ⟨m + 1, s, ms, ds, by omega, by go_num, hF, hS2⟩
    case measure => simp [intOf]; omega
  ·have hge : ¬ (m : Int) < (zs.length : Int) := by omega
   have hme : m = zs.length := by omega
   have hRd : Hid (R = ds) := by
    show _ = _
    rw [hS.out.ans, hme, List.drop_length, runS, List.append_nil]
   go_wp2
   go_ret
   exact ⟨_, rfl, by rw [hRd.out]; exact hF.out.own, hF.out.hb⟩
end Go.Proofs.YtknbchheoloaoaaGreat

/- The program's bits of what is ahead: the row in memory, and what it says. -/
namespace Go.Proofs.YtknbchheoloaoaaGreat
set_option linter.unusedVariables false
open Go.ChangeShapes Go.WideShapes Go.ChangeAt Go.RowKit
def UV (us : List Nat) : List Value := us.map fun (u : Nat) => Value.int .u64 (u : Int)
structure AhW (w wr : World) (O : Nat) (us : List Nat) : Prop where
 hb : Below w.heap.size w wr
 row : wr.rangeAt O 0 (UV us)
 room : wr.there O 0 us.length
 lo : w.heap.size ≤ O
 hi : O < wr.heap.size
theorem AhW.at {w wr : World} {O : Nat} {us : List Nat} (h : AhW w wr O us) {j u : Nat} (hj : us[j]? = some u) : wr.cell? ⟨O, j, none⟩ = some (.int .u64 (u : Int)) := by
 have := h.row j (.int .u64 u) (by simp [UV, hj])
 simpa using this
theorem AhW.fr {w wr : World} {O : Nat} {us : List Nat} (h : AhW w wr O us) {j : Nat} (hj : j < us.length) : wr.frozen? ⟨O, j, none⟩ = false := by
 have := (h.room j hj).2
 simpa using this
theorem AhW.on {w wr w' : World} {O : Nat} {us : List Nat} (h : AhW w wr O us) (hb : Below wr.heap.size wr w') : AhW w w' O us :=
 ⟨below_on h.hb hb, fun j v hj => (hb.cell (p := ⟨O, 0 + j, none⟩) h.hi).trans (h.row j v hj), fun j hj => by rw [hb.cell (p := ⟨O, 0 + j, none⟩) h.hi, hb.frozen (p := ⟨O, 0 + j, none⟩) h.hi]; exact h.room j hj, h.lo, Nat.lt_of_lt_of_le h.hi hb.size⟩
theorem AhW.set {w wr : World} {O : Nat} {us : List Nat} (h : AhW w wr O us) (j : Nat) (hj : j < us.length) (z : Nat) : AhW w (wr.setCell ⟨O, j, none⟩ (.int .u64 (z : Int))) O (us.set j z) := by
 have inn : ∀ i, i = j → (wr.setCell ⟨O, j, none⟩ (.int .u64 (z : Int))).cell? ⟨O, 0 + i, none⟩ = some (.int .u64 (z : Int)) := fun i e => by
  subst e
  have := World.cell?_setCells_in O [.int .u64 (z : Int)] i wr (fun q hq => by
    have hq : q = 0 := by simpa using hq
    subst hq
    have := (h.room i hj).1
    simpa using this) 0 (by simp)
  rw [Nat.zero_add]
  exact this
 have out : ∀ i, i ≠ j → (wr.setCell ⟨O, j, none⟩ (.int .u64 (z : Int))).cell? ⟨O, 0 + i, none⟩ = wr.cell? ⟨O, 0 + i, none⟩ := fun i e => by
  exact World.cell?_setCells_out O [.int .u64 (z : Int)] j wr ⟨O, 0 + i, none⟩ (fun _ _ => by show 0 + i < j ∨ j + 1 ≤ 0 + i; omega)
 refine ⟨below_setCells O h.lo [.int .u64 (z : Int)] j wr h.hb, fun i v hv => ?_, fun i hi => ?_, h.lo, Nat.lt_of_lt_of_le h.hi (below_setCells (B := 0) (a := wr) O (Nat.zero_le _) [.int .u64 (z : Int)] j wr (Below.refl _ _)).size⟩
 ·by_cases e : i = j
  ·have e2 : v = .int .u64 (z : Int) := by subst e; simp [UV, hj] at hv; exact hv.symm
   rw [e2]; exact inn i e
  ·have e' : ¬ j = i := fun q => e q.symm
   rw [out i e]
   exact h.row i v (by simp [UV, e'] at hv ⊢; exact hv)
 ·have hi' : i < us.length := by simpa using hi
  have h1 := h.room i hi'
  refine ⟨?_, (World.frozen?_setCells O [.int .u64 (z : Int)] j wr _).trans h1.2⟩
  by_cases e : i = j
  ·rw [inn i e]; rfl
  ·rw [out i e]; exact h1.1
structure AhS (E : Nat → Nat → Bool) (us : List Nat) (n k f : Nat) : Prop where
 len : us.length = n
 lt : ∀ (i u : Nat), us[i]? = some u → u < 18446744073709551616
 bit : ∀ (i u : Nat), us[i]? = some u → ∀ j, u.testBit j = if i < k then pthB E j i else if i = k then colB E k f j else false
theorem AhS.start (E : Nat → Nat → Bool) (n : Nat) : AhS E (List.replicate n 0) n 0 0 := by
 refine ⟨by simp, fun i u h => ?_, fun i u h j => ?_⟩
 ·have := (List.getElem?_replicate (a := (0 : Nat)) (n := n) (i := i)).symm.trans h
  split at this
  ·cases this; decide
  ·cases this
 ·have h0 : u = 0 := by
   have := (List.getElem?_replicate (a := (0 : Nat)) (n := n) (i := i)).symm.trans h
   split at this
   ·cases this; rfl
   ·cases this
  rw [h0, Nat.zero_testBit, if_neg (by omega), colB_first]
  simp
theorem AhS.last {E : Nat → Nat → Bool} {us : List Nat} {n k : Nat} (h : AhS E us n k k) : AhS E us n (k + 1) 0 := by
 refine ⟨h.len, h.lt, fun i u hu j => ?_⟩
 rw [h.bit i u hu j]
 by_cases h1 : i < k
 ·rw [if_pos h1, if_pos (by omega)]
 ·by_cases h2 : i = k
  ·rw [if_neg h1, if_pos h2, if_pos (by omega), colB_last, h2]
  ·rw [if_neg h1, if_neg h2, if_neg (by omega), colB_first]; simp
theorem AhS.no {E : Nat → Nat → Bool} {us : List Nat} {n k f : Nat} (h : AhS E us n k f) (he : E f k = false) : AhS E us n k (f + 1) :=
 ⟨h.len, h.lt, fun i u hu j => by rw [h.bit i u hu j, colB_no he]⟩
theorem AhS.yes {E : Nat → Nat → Bool} {us : List Nat} {n k f a b : Nat} (h : AhS E us n k f) (he : E f k = true) (hf : f < k) (hn : n ≤ 64) (ha : us[k]? = some a) (hb : us[f]? = some b) : AhS E (us.set k (a ||| (b ||| 2 ^ f))) n k (f + 1) := by
 have hk : k < us.length := (List.getElem?_eq_some_iff.1 ha).1
 have hl := h.len
 have p1 : a < 2 ^ 64 := h.lt k a ha
 have p2 : b < 2 ^ 64 := h.lt f b hb
 have p3 : 2 ^ f < 2 ^ 64 := Nat.pow_lt_pow_right (by decide) (by omega)
 refine ⟨by simp [hl], fun i u hu => ?_, fun i u hu j => ?_⟩
 ·by_cases e : k = i
  ·subst e
   rw [List.getElem?_set_self hk] at hu
   cases hu
   exact Nat.or_lt_two_pow p1 (Nat.or_lt_two_pow p2 p3)
  ·rw [List.getElem?_set_ne e] at hu
   exact h.lt i u hu
 ·by_cases e : k = i
  ·subst e
   rw [List.getElem?_set_self hk] at hu
   cases hu
   rw [Nat.testBit_or, Nat.testBit_or, h.bit k a ha j, h.bit f b hb j, if_neg (by omega), if_pos rfl, if_pos hf, if_neg (by omega), if_pos rfl, colB_yes he, Nat.testBit_two_pow]
   congr 2
   rw [Bool.eq_iff_iff]; simp; omega
  ·rw [List.getElem?_set_ne e] at hu
   rw [h.bit i u hu j]
   by_cases h1 : i < k
   ·rw [if_pos h1, if_pos h1]
   ·rw [if_neg h1, if_neg h1, if_neg (fun q => e q.symm), if_neg (fun q => e q.symm)]
theorem or64 (a b : Nat) (ha : a < 18446744073709551616) (hb : b < 18446744073709551616) : bits .or .u64 (a : Int) (b : Int) = ((a ||| b : Nat) : Int) := u64_or_nat a b ha hb
end Go.Proofs.YtknbchheoloaoaaGreat
