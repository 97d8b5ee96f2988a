/- The specification's Order: the matrix of what is ahead of what. -/
import Derived.Test.YtknbchheoloaoaaGreatSbA
import Derived.Test.YtknbchheoloaoaaGreatSoE
import Derived.Test.YtknbchheoloaoaaGreatSoI
import Derived.Test.YtknbchheoloaoaaGreatSoK
import Derived.Test.YtknbchheoloaoaaGreatSoJ
import Derived.Test.YtknbchheoloaoaaGreatSoO
import Derived.Test.YtknbchheoloaoaaGreatSaL
import Derived.Lib.QuietBelow
namespace Go.Proofs.YtknbchheoloaoaaGreat
set_option linter.unusedVariables false
open Go.ChangeShapes Go.WideShapes Go.ChangeAt Go.RowKit
structure MatR (wr : World) (M n i0 : Nat) (gs : Nat → Nat) (bs : Nat → Nat → Bool) : Prop where
 head : ∃ c, wr.heap[M]? = some (.cells c 56) ∧ c.size = n ∧ ∀ i, i < n → c[i]? = some (if i0 ≤ i then .slice (some ⟨gs i, 0, none⟩) n n else .slice none 0 0)
 rows : ∀ i, i0 ≤ i → i < n → ∃ c, wr.heap[gs i]? = some (.cells c 4) ∧ c.size = n ∧ ∀ j, j < n → c[j]? = some (.bool (bs i j))
theorem MatR.keep {wr w' : World} {M n i0 : Nat} {gs : Nat → Nat} {bs : Nat → Nat → Bool} (h : MatR wr M n i0 gs bs) (hk : ∀ k, k < wr.heap.size → w'.heap[k]? = wr.heap[k]? ∨ ∃ c t f, wr.heap[k]? = some (.cells c t f) ∧ t ≠ 56 ∧ t ≠ 4) : MatR w' M n i0 gs bs := by
 have key : ∀ (k : Nat) (c : Array Value) (t : TypeId), wr.heap[k]? = some (Obj.cells c t) → (t = 56 ∨ t = 4) → w'.heap[k]? = some (Obj.cells c t) := fun k c t e ht => by
  rcases hk k (heap_lt e) with e' | ⟨c', t', f', e', n1, n2⟩
  ·rw [e', e]
  ·exfalso
   rw [e] at e'
   have hty : t = t' := by injection e' with e'; injection e'
   rcases ht with ht | ht
   ·exact n1 (hty.symm.trans ht)
   ·exact n2 (hty.symm.trans ht)
 refine ⟨?_, fun i h1 h2 => ?_⟩
 ·obtain ⟨c, e, hc, hv⟩ := h.head
  exact ⟨c, key _ _ _ e (.inl rfl), hc, hv⟩
 ·obtain ⟨c, e, hc, hv⟩ := h.rows i h1 h2
  exact ⟨c, key _ _ _ e (.inr rfl), hc, hv⟩
theorem MatR.on {wr w' : World} {M n i0 : Nat} {gs : Nat → Nat} {bs : Nat → Nat → Bool} (h : MatR wr M n i0 gs bs) (hb : Below wr.heap.size wr w') : MatR w' M n i0 gs bs := h.keep fun k hk => .inl (hb.block k hk)
theorem MatR.hd {wr : World} {M n i0 : Nat} {gs : Nat → Nat} {bs : Nat → Nat → Bool} (h : MatR wr M n i0 gs bs) {i : Nat} (h1 : i0 ≤ i) (h2 : i < n) : wr.cell? ⟨M, i, none⟩ = some (.slice (some ⟨gs i, 0, none⟩) n n) := by
 obtain ⟨c, e, hc, hv⟩ := h.head
 exact cell_of_heap e ((hv i h2).trans (by rw [if_pos h1]))
theorem MatR.hd0 {wr : World} {M n i0 : Nat} {gs : Nat → Nat} {bs : Nat → Nat → Bool} (h : MatR wr M n i0 gs bs) {i : Nat} (h1 : i < i0) (h2 : i < n) : wr.cell? ⟨M, i, none⟩ = some (.slice none 0 0) ∧ wr.frozen? ⟨M, i, none⟩ = false := by
 obtain ⟨c, e, hc, hv⟩ := h.head
 exact ⟨cell_of_heap e ((hv i h2).trans (by rw [if_neg (by omega)])), frozen_of_heap e i⟩
theorem MatR.bit {wr : World} {M n i0 : Nat} {gs : Nat → Nat} {bs : Nat → Nat → Bool} (h : MatR wr M n i0 gs bs) {i j : Nat} (h1 : i0 ≤ i) (h2 : i < n) (h3 : j < n) : wr.cell? ⟨gs i, j, none⟩ = some (.bool (bs i j)) ∧ wr.frozen? ⟨gs i, j, none⟩ = false := by
 obtain ⟨c, e, hc, hv⟩ := h.rows i h1 h2
 exact ⟨cell_of_heap e (hv j h3), frozen_of_heap e j⟩
structure MatW (W1 wr : World) (M n i0 : Nat) (gs : Nat → Nat) (bs : Nat → Nat → Bool) : Prop where
 hb : Below W1.heap.size W1 wr
 lo : W1.heap.size ≤ M
 mat : MatR wr M n i0 gs bs
 ge : ∀ i, i0 ≤ i → i < n → W1.heap.size ≤ gs i
 inj : ∀ i j, i0 ≤ i → i < j → j < n → gs i ≠ gs j
theorem MatW.on {wr w' W1 : World} {M n i0 : Nat} {gs : Nat → Nat} {bs : Nat → Nat → Bool} (h : MatW W1 wr M n i0 gs bs) (hb : Below wr.heap.size wr w') : MatW W1 w' M n i0 gs bs := ⟨below_on h.hb hb, h.lo, h.mat.on hb, h.ge, h.inj⟩
def updB (bs : Nat → Nat → Bool) (i j : Nat) (b : Bool) : Nat → Nat → Bool := fun a c => if a = i ∧ c = j then b else bs a c
theorem MatW.set {wr W1 : World} {M n i0 : Nat} {gs : Nat → Nat} {bs : Nat → Nat → Bool} (h : MatW W1 wr M n i0 gs bs) {i j : Nat} (h1 : i0 ≤ i) (h2 : i < n) (h3 : j < n) (b : Bool) : MatW W1 (wr.setCell ⟨gs i, j, none⟩ (.bool b)) M n i0 gs (updB bs i j b) := by
 obtain ⟨ch, eh, hch, hvh⟩ := h.mat.head
 obtain ⟨cr, er, hcr, hvr⟩ := h.mat.rows i h1 h2
 have hM : M ≠ gs i := fun e => by
  rw [e, er] at eh
  have : (4 : TypeId) = 56 := by injection eh with eh; injection eh
  exact absurd this (by decide)
 refine ⟨below_setCells _ (h.ge i h1 h2) [.bool b] j wr h.hb, h.lo, ⟨⟨ch, (heap_set_other _ _ _ _ hM).trans eh, hch, hvh⟩, fun a h4 h5 => ?_⟩, h.ge, h.inj⟩
 by_cases e : a = i
 ·subst e
  refine ⟨_, heap_set_same er j _, by simpa using hcr, fun c hc => ?_⟩
  by_cases ec : c = j
  ·subst ec
   rw [Array.getElem?_setIfInBounds_self_of_lt (by omega)]
   simp [updB]
  ·rw [Array.getElem?_setIfInBounds_ne (Ne.symm ec), hvr c hc]
   simp [updB, ec]
 ·obtain ⟨ca, ea, hca, hva⟩ := h.mat.rows a h4 h5
  have hne : gs a ≠ gs i := by
   rcases Nat.lt_or_ge a i with hl | hl
   ·exact h.inj a i h4 hl h2
   ·exact (h.inj i a h1 (by omega) h5).symm
  refine ⟨ca, (heap_set_other _ _ _ _ hne).trans ea, hca, fun c hc => ?_⟩
  rw [hva c hc]
  simp [updB, e]
theorem MatW.row {wr W1 : World} {M n i0 : Nat} {gs : Nat → Nat} {bs : Nat → Nat → Bool} (h : MatW W1 wr M n (i0 + 1) gs bs) (hi : i0 < n) : MatW W1 ((wr.alloc (.cells (Array.replicate n (.bool false)) 4)).setCell ⟨M, i0, none⟩ (.slice (some ⟨wr.heap.size, 0, none⟩) n n)) M n i0 (fun a => if a = i0 then wr.heap.size else gs a) (fun a j => if a = i0 then false else bs a j) := by
 obtain ⟨ch, eh, hch, hvh⟩ := h.mat.head
 have hb1 := below_1 wr (.cells (Array.replicate n (.bool false)) 4)
 have en := heap_alloc_new wr (.cells (Array.replicate n (.bool false)) 4)
 have hMl := heap_lt eh
 have eh1 := (hb1.block M hMl).trans eh
 have hgl : ∀ a, i0 + 1 ≤ a → a < n → gs a < wr.heap.size := fun a h1 h2 => by
  obtain ⟨c, e, _⟩ := h.mat.rows a h1 h2
  exact heap_lt e
 have hsz := h.hb.size
 refine ⟨below_setCells _ h.lo [.slice (some ⟨wr.heap.size, 0, none⟩) n n] i0 _ (below_on h.hb hb1), h.lo, ⟨⟨_, heap_set_same eh1 i0 _, by simpa using hch, fun a ha => ?_⟩, fun a h1 h2 => ?_⟩, fun a h1 h2 => ?_, fun a b h1 h2 h3 => ?_⟩
 ·by_cases e : a = i0
  ·subst e
   rw [Array.getElem?_setIfInBounds_self_of_lt (by omega), if_pos (Nat.le_refl _), if_pos rfl]
  ·rw [Array.getElem?_setIfInBounds_ne (Ne.symm e), hvh a ha]
   by_cases h5 : i0 + 1 ≤ a
   ·rw [if_pos h5, if_pos (by omega), if_neg e]
   ·rw [if_neg h5, if_neg (by omega)]
 ·by_cases e : a = i0
  ·subst e
   simp only [if_true]
   refine ⟨_, (heap_set_other _ _ _ _ (by omega)).trans en, by simp, fun j hj => by simp [hj]⟩
  ·simp only [if_neg e]
   obtain ⟨c, er, hc, hv⟩ := h.mat.rows a (by omega) h2
   have hne : gs a ≠ M := fun q => by
    rw [q, eh] at er
    have : (56 : TypeId) = 4 := by injection er with er; injection er
    exact absurd this (by decide)
   exact ⟨c, (heap_set_other _ _ _ _ hne).trans ((hb1.block _ (hgl a (by omega) h2)).trans er), hc, hv⟩
 ·by_cases e : a = i0
  ·rw [if_pos e]; exact hsz
  ·rw [if_neg e]; exact h.ge a (by omega) h2
 ·rw [if_neg (show b ≠ i0 by omega)]
  by_cases e : a = i0
  ·rw [if_pos e]
   exact fun q => by have := hgl b (by omega) h3; omega
  ·rw [if_neg e]; exact h.inj a b (by omega) h2 h3
theorem elemBb : ∃ i, Tryz.prog.info? 4 = some i ∧ i.zero = some (.bool false) ∧ i.size = 1 ∧ i.bytes = 1 := by
 obtain ⟨i0, hi0⟩ : ∃ i, Tryz.prog.info? 4 = some i := Option.isSome_iff_exists.1 (by kernel_rfl)
 have hz : (Tryz.prog.info? 4).bind (·.zero) = some (.bool false) := by kernel_rfl
 refine ⟨i0, hi0, ?_, ?_, ?_⟩
 ·rw [hi0] at hz; exact hz
 ·have : (Tryz.prog.info? 4).map (·.size) = some 1 := by kernel_rfl
  rw [hi0] at this; exact Option.some.inj this
 ·have : (Tryz.prog.info? 4).map (·.bytes) = some 1 := by kernel_rfl
  rw [hi0] at this; exact Option.some.inj this
theorem elemBr : ∃ i, Tryz.prog.info? 56 = some i ∧ i.zero = some (.slice none 0 0) ∧ i.size = 1 ∧ i.bytes = 24 := by
 obtain ⟨i0, hi0⟩ : ∃ i, Tryz.prog.info? 56 = some i := Option.isSome_iff_exists.1 (by kernel_rfl)
 have hz : (Tryz.prog.info? 56).bind (·.zero) = some (.slice none 0 0) := by kernel_rfl
 refine ⟨i0, hi0, ?_, ?_, ?_⟩
 ·rw [hi0] at hz; exact hz
 ·have : (Tryz.prog.info? 56).map (·.size) = some 1 := by kernel_rfl
  rw [hi0] at this; exact Option.some.inj this
 ·have : (Tryz.prog.info? 56).map (·.bytes) = some 24 := by kernel_rfl
  rw [hi0] at this; exact Option.some.inj this
theorem made_rep (v : Value) (hv : v.cells = #[v]) (n : Nat) : madeCells v.cells n = Array.replicate n v := by
 apply Array.ext
 ·simp [madeCells, hv]
 ·intro i h1 h2
  have hm : i % 1 = 0 := Nat.mod_one i
  simp [madeCells, hv, hm]
theorem makeBb (n : Nat) (hn : n ≤ 64) (w : World) : (Instr.makeSlice 56 (.int .i64 (n : Int)) (.int .i64 (n : Int))).run Tryz.prog w = .ok (.slice (some ⟨w.heap.size, 0, none⟩) n n) (w.alloc (.cells (Array.replicate n (.bool false)) 4)) := by
 obtain ⟨i, h1, h2, h3, h4⟩ := elemBb
 have h := run_makeSlice (P := Tryz.prog) w 56 4 i (.bool false) Tryz.underlying56 h1 h2 .i64 .i64 (n : Int) (n : Int) (by omega) (by omega) (by rw [h3]; simp; omega) (by rw [h4]; omega) (by omega)
 rw [h3, Nat.mul_one, show (n : Int).toNat = n from rfl, made_rep (.bool false) rfl] at h
 exact h
theorem makeBr (n : Nat) (hn : n ≤ 64) (w : World) : (Instr.makeSlice 55 (.int .i64 (n : Int)) (.int .i64 (n : Int))).run Tryz.prog w = .ok (.slice (some ⟨w.heap.size, 0, none⟩) n n) (w.alloc (.cells (Array.replicate n (.slice none 0 0)) 56)) := by
 obtain ⟨i, h1, h2, h3, h4⟩ := elemBr
 have h := run_makeSlice (P := Tryz.prog) w 55 56 i (.slice none 0 0) Tryz.underlying55 h1 h2 .i64 .i64 (n : Int) (n : Int) (by omega) (by omega) (by rw [h3]; simp; omega) (by rw [h4]; omega) (by omega)
 rw [h3, Nat.mul_one, show (n : Int).toNat = n from rfl, made_rep (.slice none 0 0) rfl] at h
 exact h
theorem MatW.start (w : World) (n : Nat) : MatW w (w.alloc (.cells (Array.replicate n (.slice none 0 0)) 56)) w.heap.size n n (fun _ => 0) (fun _ _ => false) := by
 have e := heap_alloc_new w (.cells (Array.replicate n (.slice none 0 0)) 56)
 refine ⟨below_1 _ _, Nat.le_refl _, ⟨⟨_, e, by simp, fun i hi => ?_⟩, fun i h1 h2 => by omega⟩, fun i h1 h2 => by omega, fun i j h1 h2 h3 => by omega⟩
 rw [if_neg (by omega)]
 simp [hi]
noncomputable def midB (E : Nat → Nat → Bool) (i k j0 j : Nat) : Bool := (j == k) || (rowB E i k j || (decide (j < j0) && pthB E k j))
structure RowOk (E : Nat → Nat → Bool) (n i : Nat) (f : Nat → Bool) (bs : Nat → Nat → Bool) : Prop where
 cur : ∀ j, j < n → bs i j = f j
 rest : ∀ a, i < a → a < n → ∀ j, j < n → bs a j = pthB E a j
def AllOk (E : Nat → Nat → Bool) (n i0 : Nat) (bs : Nat → Nat → Bool) : Prop := ∀ a, i0 ≤ a → a < n → ∀ j, j < n → bs a j = pthB E a j
theorem pthB_le {E : Nat → Nat → Bool} {k j : Nat} (h : j ≤ k) : pthB E k j = false := by
 rw [Bool.eq_false_iff]
 intro q
 have := (pthB_iff.1 q).lt
 omega
theorem AllOk.row {E : Nat → Nat → Bool} {n i : Nat} {bs : Nat → Nat → Bool} (h : AllOk E n (i + 1) bs) : RowOk E n i (rowB E i (i + 1)) (fun a j => if a = i then false else bs a j) :=
 ⟨fun j hj => by simp [rowB_first], fun a h1 h2 j hj => by simp only [if_neg (show a ≠ i by omega)]; exact h a (by omega) h2 j hj⟩
theorem RowOk.no {E : Nat → Nat → Bool} {n i k : Nat} {bs : Nat → Nat → Bool} (h : RowOk E n i (rowB E i k) bs) (he : E i k = false) : RowOk E n i (rowB E i (k + 1)) bs :=
 ⟨fun j hj => by rw [rowB_no he]; exact h.cur j hj, h.rest⟩
theorem RowOk.yes {E : Nat → Nat → Bool} {n i k : Nat} {bs : Nat → Nat → Bool} (h : RowOk E n i (rowB E i k) bs) : RowOk E n i (midB E i k (k + 1)) (updB bs i k true) := by
 refine ⟨fun j hj => ?_, fun a h1 h2 j hj => ?_⟩
 ·unfold updB midB
  by_cases e : j = k
  ·subst e; simp
  ·have hp : (decide (j < k + 1) && pthB E k j) = false := by
    by_cases hl : j < k + 1
    ·rw [pthB_le (by omega), Bool.and_false]
    ·simp [hl]
   rw [if_neg (fun q => e q.2), h.cur j hj, hp]
   simp [e]
 ·unfold updB
  rw [if_neg (fun q => by omega)]
  exact h.rest a h1 h2 j hj
theorem RowOk.step {E : Nat → Nat → Bool} {n i k j0 : Nat} {bs : Nat → Nat → Bool} (h : RowOk E n i (midB E i k j0) bs) (hk : k < j0) (hj0 : j0 < n) (hik : i < k) : RowOk E n i (midB E i k (j0 + 1)) (updB bs i j0 (bs i j0 || bs k j0)) := by
 have hkj : bs k j0 = pthB E k j0 := h.rest k hik (by omega) j0 hj0
 refine ⟨fun j hj => ?_, fun a h1 h2 j hj => ?_⟩
 ·unfold updB
  by_cases e : j = j0
  ·subst e
   rw [if_pos ⟨rfl, rfl⟩, h.cur j hj, hkj]
   unfold midB
   simp [Bool.or_assoc]
  ·rw [if_neg (fun q => e q.2), h.cur j hj]
   unfold midB
   have : decide (j < j0 + 1) = decide (j < j0) := by rw [Bool.eq_iff_iff]; simp; omega
   rw [this]
 ·unfold updB
  rw [if_neg (fun q => by omega)]
  exact h.rest a h1 h2 j hj
theorem RowOk.last {E : Nat → Nat → Bool} {n i k : Nat} {bs : Nat → Nat → Bool} (h : RowOk E n i (midB E i k n) bs) (hik : i < k) (he : E i k = true) : RowOk E n i (rowB E i (k + 1)) bs :=
 ⟨fun j hj => by rw [h.cur j hj, rowB_yes hik he]; unfold midB; simp [hj], h.rest⟩
theorem RowOk.all {E : Nat → Nat → Bool} {n i : Nat} {bs : Nat → Nat → Bool} (h : RowOk E n i (rowB E i n) bs) : AllOk E n i bs := fun a h1 h2 j hj => by
 by_cases e : a = i
 ·subst e; rw [h.cur j hj, rowB_last hj]
 ·exact h.rest a (by omega) h2 j hj
structure FolO (x : LitL) (s : S11) (ds R : List DoneL) (zs : List Int) (m : Nat) : Prop where
 wf : Wf x s
 len : ds.length ≤ m
 ans : R = ds ++ runS x s (zs.drop m)
theorem FolO.no {x : LitL} {s : S11} {ds R : List DoneL} {zs : List Int} {m : Nat} (h : FolO x s ds R zs m) (hm : m < zs.length) (hp : pickS x s zs[m] = none) : FolO x s ds R zs (m + 1) := by
 refine ⟨h.wf, Nat.le_succ_of_le h.len, ?_⟩
 rw [h.ans, List.drop_eq_getElem_cons hm, runS, hp]
theorem FolO.yes {x : LitL} {s : S11} {ds R : List DoneL} {zs : List Int} {m : Nat} (ho : OkL x) (h : FolO x s ds R zs m) (hm : m < zs.length) {t : Nat} {a : ActL} (hz : zs[m] = (t : Int)) (hp : pickS x s (t : Int) = some a) : FolO x (actS s t a) (ds ++ [⟨t, pcOf s t⟩]) R zs (m + 1) := by
 obtain ⟨h1, h2, h3⟩ := pickS_some hp
 rw [show (t : Int).toNat = t from rfl] at h2
 refine ⟨wf_act ho h.wf h2, by simp; exact h.len, ?_⟩
 rw [h.ans, List.drop_eq_getElem_cons hm, runS, hz, hp, List.append_assoc]
 rfl
theorem FolO.far {x : LitL} {s : S11} {ds R : List DoneL} {zs : List Int} {m : Nat} {z : Int} (h : FolO x s ds R zs m) (hm : m < zs.length) (hz : zs[m] = z) (hf : z < 0 ∨ (x.thr.length : Int) ≤ z) : FolO x s ds R zs (m + 1) :=
 h.no hm (by rw [hz]; unfold pickS; rw [if_neg]; omega)
theorem FolO.cannot {x : LitL} {s : S11} {ds R : List DoneL} {zs : List Int} {m t : Nat} (h : FolO x s ds R zs m) (hm : m < zs.length) (hz : zs[m] = (t : Int)) (hc : canS x s t = false) : FolO x s ds R zs (m + 1) :=
 h.no hm (by rw [hz]; exact pickS_none.2 (fun q => by have := q.2.2; rw [show (t : Int).toNat = t from rfl, hc] at this; cases this))
theorem FolO.can {x : LitL} {s : S11} {ds R : List DoneL} {zs : List Int} {m t : Nat} (ho : OkL x) (h : FolO x s ds R zs m) (hm : m < zs.length) (hz : zs[m] = (t : Int)) (ht : t < x.thr.length) (hc : canS x s t = true) : ∃ a, Hid (actAt x t (pcOf s t) = some a) ∧ Hid (FolO x (actS s t a) (ds ++ [⟨t, pcOf s t⟩]) R zs (m + 1)) := by
 cases hp : pickS x s (t : Int) with
 | none => exact absurd ⟨by omega, by omega, by rw [show (t : Int).toNat = t from rfl]; exact hc⟩ (pickS_none.1 hp)
 | some a =>
  refine ⟨a, ?_, h.yes ho hm hz hp⟩
  have := (pickS_some hp).2.1
  rw [show (t : Int).toNat = t from rfl] at this
  exact this
theorem fol_end {x : LitL} {s : S11} {es R : List DoneL} {zs : List Int} {m : Nat} (h : FolO x s es R zs m) (hm : m ≤ zs.length) (hn : ¬ m < zs.length) : es = R := by
 have e : m = zs.length := by omega
 rw [h.ans, e, List.drop_length, runS, List.append_nil]
theorem take_lt (zs : List Int) (m : Nat) : m < (zs.take 4000).length ↔ m < zs.length ∧ m < 4000 := by rw [List.length_take]; omega
theorem take_get (zs : List Int) (m : Nat) (h : m < (zs.take 4000).length) : ∃ (h1 : m < zs.length), (zs.take 4000)[m] = zs[m] ∧ (m : Int) < (zs.length : Int) ∧ (m : Int) < 4000 := by
 have h' : m < 4000 ∧ m < zs.length := by rw [List.length_take] at h; omega
 exact ⟨h'.2, by simp, by omega, by omega⟩
theorem orCan {x : LitL} (ho : OkL x) {w : World} {ta : Option Addr} {tc lo hi : Nat} (hh : hi ≤ w.heap.size) (hxH : ∀ W, Below w.heap.size w W → ListAt ThrR 1 true lo hi W (.slice ta x.thr.length tc) x.thr) {wr : World} {v1 v2 p : Value} {es : List DoneL} {rs : List RaceL} {s : S11} (hO : OrW w wr x ta tc v1 v2 es rs) (hS : ReadSt wr p s) (hw : Wf x s) {t : Nat} {b : Bool} (ht : t < x.thr.length) (hb : canS x s t = b) :
  ∀ d os, Calls Tryz.prog 19 #[.agg #[.int .i64 x.vars, .int .i64 x.vol, .int .i64 x.locks, .slice ta x.thr.length tc], p, .int .i64 (t : Int), .bool false] (Sort.grow (redrawn wr d) os) fun e w'' => e = .returned (.bool b) ∧ ∃ q : Regrown, w'' = Sort.grow (redrawn wr q.d) q.os := fun d os => by
 have hgb := below_regrown wr d os
 have hgw := below_on hO.hb hgb
 refine Calls.regrown_of ?_
 rw [← hb]
 exact can_calls x s t p ta tc _ lo hi (by have := hgw.size; omega) (hxH _ hgw) (hS.below hgb) ho hw ht
theorem orAct {x : LitL} (ho : OkL x) {w : World} {ta : Option Addr} {tc lo hi : Nat} (hh : hi ≤ w.heap.size) (hxH : ∀ W, Below w.heap.size w W → ListAt ThrR 1 true lo hi W (.slice ta x.thr.length tc) x.thr) {wr : World} {v1 v2 p : Value} {es : List DoneL} {rs : List RaceL} {s : S11} (hO : OrW w wr x ta tc v1 v2 es rs) (hS : ReadSt wr p s) (hw : Wf x s) {t : Nat} {a : ActL} (ha : actAt x t (pcOf s t) = some a) :
  Hid (∀ W, Below wr.heap.size wr W → Calls Tryz.prog 20 #[.agg #[.int .i64 x.vars, .int .i64 x.vol, .int .i64 x.locks, .slice ta x.thr.length tc], p, .int .i64 (t : Int), .bool false] W fun e w' => (∃ p', e = .returned p' ∧ ReadSt w' p' (actS s t a)) ∧ Below W.heap.size W w') := fun W hW => by
 have hgw := below_on hO.hb hW
 exact act_calls x s t p ta tc W lo hi (by have := hgw.size; omega) (hxH _ hgw) (hS.below hW) ho hw a ha
def actR (W0 : World) (s : S11) : Nat → (Nat → Value) → World → Prop
 | 0, _, W => Below W0.heap.size W0 W
 | _, vs, W => Below W0.heap.size W0 W ∧ ReadSt W (vs 6) s
theorem actR_below {W0 : World} {s : S11} {k : Nat} {vs : Nat → Value} {W : World} (h : actR W0 s k vs W) : Below W0.heap.size W0 W := by
 match k, h with
 | 0, h => exact h
 | _ + 1, h => exact h.1
theorem actR_loc (W0 : World) (s : S11) : ∀ k vs i v W, i ∉ [6] → actR W0 s k vs W → actR W0 s k (upd vs i v) W := by
 intro k vs i v W hi h
 have e : upd vs i v 6 = vs 6 := by unfold upd; rw [if_neg]; intro q; exact hi (by simp [← q])
 match k, h with
 | 0, h => exact h
 | _ + 1, h => show _ ∧ ReadSt W (upd vs i v 6) s; rw [e]; exact h
theorem rowStep {W1 w2 : World} {M n i : Nat} {gs : Nat → Nat} {bs : Nat → Nat → Bool} (h : MatW W1 w2 M n (i + 1) gs bs) (hi : i < n) (hn : n ≤ 64) : ∃ W3, (Instr.makeSlice 56 (.int .i64 (n : Int)) (.int .i64 (n : Int))).run Tryz.prog w2 = .ok (.slice (some ⟨w2.heap.size, 0, none⟩) n n) W3 ∧ W3.cell? ⟨M, i, none⟩ = some (.slice none 0 0) ∧ W3.frozen? ⟨M, i, none⟩ = false ∧ Hid (MatW W1 (W3.setCell ⟨M, i, none⟩ (.slice (some ⟨w2.heap.size, 0, none⟩) n n)) M n i (fun a => if a = i then w2.heap.size else gs a) (fun a j => if a = i then false else bs a j)) := by
 have h0 := (h.on (below_1 w2 (.cells (Array.replicate n (.bool false)) 4))).mat.hd0 (Nat.lt_succ_self i) hi
 exact ⟨_, makeBb n hn w2, h0.1, h0.2, h.row hi⟩
theorem orEdge {x : LitL} (ho : OkL x) {w : World} {ta : Option Addr} {tc lo hi : Nat} (hh : hi ≤ w.heap.size) (hxH : ∀ W, Below w.heap.size w W → ListAt ThrR 1 true lo hi W (.slice ta x.thr.length tc) x.thr) {wr : World} (hb : Below w.heap.size w wr) {ds : List DoneL} (hin : ∀ d ∈ ds, d.t < x.thr.length ∧ ∃ a, actAt x d.t d.k = some a) {i k : Nat} {b : Bool} (hi' : i < ds.length) (hk' : k < ds.length) (he : edgeE x ds i k = b) :
  ∀ d os, Calls Tryz.prog 21 #[.agg #[.int .i64 x.vars, .int .i64 x.vol, .int .i64 x.locks, .slice ta x.thr.length tc], .agg #[.int .i64 (ds[i].t : Int), .int .i64 (ds[i].k : Int)], .agg #[.int .i64 (ds[k].t : Int), .int .i64 (ds[k].k : Int)]] (Sort.grow (redrawn wr d) os) fun e w'' => e = .returned (.bool b) ∧ ∃ q : Regrown, w'' = Sort.grow (redrawn wr q.d) q.os := fun d os => by
 have hgb := below_regrown wr d os
 have hgw := below_on hb hgb
 refine Calls.regrown_of ?_
 obtain ⟨a, ha⟩ := (hin _ (List.getElem_mem hi')).2
 obtain ⟨c, hc⟩ := (hin _ (List.getElem_mem hk')).2
 have e : edgeE x ds i k = edgeB x.vol ds[i] ds[k] a c := by
  unfold edgeE
  rw [List.getElem?_eq_getElem hi', List.getElem?_eq_getElem hk']
  simp [actOf, ha, hc]
 rw [← he, e]
 exact edge_calls x ds[i] ds[k] a c ta tc _ lo hi (by have := hgw.size; omega) (hxH _ hgw) (by have := ho.n1; omega) ha hc
theorem pred_int (i : Nat) : Value.int .i64 (((i + 1 : Nat) : Int) - 1) = Value.int .i64 (i : Int) := by congr 1; omega
theorem pred_zero : Value.int .i64 (((0 : Nat) : Int) - 1) = Value.int .i64 (-1) := rfl
theorem OrW.act2 {w wr : World} {x : LitL} {ta : Option Addr} {tc : Nat} {da : Option Addr} {n dc : Nat} {v2 : Value} {ds : List DoneL} {rs : List RaceL} (h : OrW w wr x ta tc (.slice da n dc) v2 ds rs) {i : Nat} (hi : i < ds.length) : ∃ db, da = some ⟨db, 0, none⟩ := by
 obtain ⟨db, e, _⟩ := (doneAt_of h.acts).2.2 i hi
 exact ⟨db, e⟩
theorem OrW.actC {w wr : World} {x : LitL} {ta : Option Addr} {tc : Nat} {db n dc : Nat} {v2 : Value} {ds : List DoneL} {rs : List RaceL} (h : OrW w wr x ta tc (.slice (some ⟨db, 0, none⟩) n dc) v2 ds rs) {i : Nat} (hi : i < ds.length) : wr.cell? ⟨db, i * 2, none⟩ = some (.int .i64 (ds[i].t : Int)) ∧ wr.cell? ⟨db, i * 2 + 1, none⟩ = some (.int .i64 (ds[i].k : Int)) := by
 obtain ⟨db', e, _, h1, h2⟩ := (doneAt_of h.acts).2.2 i hi
 cases e
 exact ⟨h1, h2⟩
theorem rowRaces_first (x : LitL) (ds : List DoneL) (i : Nat) : rowRaces x ds i (i + 1) = [] := by simp [rowRaces]
theorem rowRaces_snoc (x : LitL) (ds : List DoneL) {i k : Nat} (h : i < k) : rowRaces x ds i (k + 1) = rowRaces x ds i k ++ raceAt x ds i k := by
 unfold rowRaces
 have e : k + 1 - (i + 1) = (k - (i + 1)) + 1 := by omega
 rw [e, List.range'_1_concat, List.flatMap_append]
 have e2 : i + 1 + (k - (i + 1)) = k := by omega
 rw [e2]
 simp
theorem specRaces_snoc (x : LitL) (ds : List DoneL) (i : Nat) : specRaces x ds (i + 1) = specRaces x ds i ++ rowRaces x ds i ds.length := by
 simp [specRaces, List.range_succ]
noncomputable def foundR (x : LitL) (ds : List DoneL) (i k : Nat) : List RaceL := (specRaces x ds i ++ rowRaces x ds i k).foldl insR []
theorem foundR_start (x : LitL) (ds : List DoneL) : foundR x ds 0 1 = [] := by simp [foundR, specRaces, rowRaces]
theorem foundR_next (x : LitL) (ds : List DoneL) (i : Nat) : foundR x ds i ds.length = foundR x ds (i + 1) (i + 2) := by
 unfold foundR
 rw [rowRaces_first x ds (i + 1), specRaces_snoc, List.append_nil]
theorem foundR_no {x : LitL} {ds : List DoneL} {i k : Nat} (h : i < k) (hr : raceAt x ds i k = []) : foundR x ds i (k + 1) = foundR x ds i k := by
 unfold foundR
 rw [rowRaces_snoc x ds h, hr, List.append_nil]
theorem foundR_yes {x : LitL} {ds : List DoneL} {i k : Nat} {r : RaceL} (h : i < k) (hr : raceAt x ds i k = [r]) : foundR x ds i (k + 1) = insR (foundR x ds i k) r := by
 unfold foundR
 rw [rowRaces_snoc x ds h, hr, ← List.append_assoc, List.foldl_append]
 rfl
theorem foundR_end (x : LitL) (ds : List DoneL) : foundR x ds ds.length (ds.length + 1) = (specRaces x ds ds.length).foldl insR [] := by
 unfold foundR
 rw [rowRaces_first, List.append_nil]
theorem insR_len (rs : List RaceL) (r : RaceL) : (insR rs r).length ≤ rs.length + 1 := by
 rw [insR_eq]
 induction rs with
 | nil => simp [insS]
 | cons q l ih =>
  unfold insS
  split
  ·simp; omega
  ·split <;> simp
theorem foldIns_len : ∀ (L rs : List RaceL), (L.foldl insR rs).length ≤ rs.length + L.length
 | [], rs => by simp
 | r :: L, rs => by
  have h1 := insR_len rs r
  have h2 := foldIns_len L (insR rs r)
  simp only [List.foldl_cons, List.length_cons]; omega
theorem int_ne_false {a b : Nat} (h : a = b) : ((a : Int) != (b : Int)) = false := by simp [h]
theorem int_ne_true {a b : Nat} (h : ¬ a = b) : ((a : Int) != (b : Int)) = true := by simp; omega
theorem found_next {x : LitL} {ds : List DoneL} {n : Nat} (hn : n = ds.length) (i : Nat) : foundR x ds i n = foundR x ds (i + 1) (i + 1 + 1) := by rw [hn]; exact foundR_next x ds i
theorem found_end {x : LitL} {ds : List DoneL} {n : Nat} (hn : n = ds.length) : Hid (foundR x ds n (n + 1) = (specRaces x ds ds.length).foldl insR []) := by show _ = _; rw [hn]; exact foundR_end x ds
theorem raceAt_get {x : LitL} {ds : List DoneL} {i k : Nat} (hi : i < ds.length) (hk : k < ds.length) : raceAt x ds i k = if (raceC x ds[i] ds[k] && !pthB (edgeE x ds) i k) = true then [raceD ds[i] ds[k]] else [] := by
 unfold raceAt
 rw [List.getElem?_eq_getElem hi, List.getElem?_eq_getElem hk]
theorem raceAt_same {x : LitL} {ds : List DoneL} {i k : Nat} (hi : i < ds.length) (hk : k < ds.length) (h : ds[i].t = ds[k].t) : raceAt x ds i k = [] := by
 rw [raceAt_get hi hk]
 simp [raceC, h]
theorem raceAt_pth {x : LitL} {ds : List DoneL} {i k : Nat} (hi : i < ds.length) (hk : k < ds.length) (h : pthB (edgeE x ds) i k = true) : raceAt x ds i k = [] := by
 rw [raceAt_get hi hk]
 simp [h]
theorem raceAt_conf {x : LitL} {ds : List DoneL} {i k : Nat} (hi : i < ds.length) (hk : k < ds.length) {a b : ActL} (ha : actAt x ds[i].t ds[i].k = some a) (hb : actAt x ds[k].t ds[k].k = some b) (hn : ds[i].t ≠ ds[k].t) (h : pthB (edgeE x ds) i k = false) : raceAt x ds i k = if conflictB x.vol a b = true then [raceD ds[i] ds[k]] else [] := by
 rw [raceAt_get hi hk]
 have e1 : actOf x ds[i] = a := by simp [actOf, ha]
 have e2 : actOf x ds[k] = b := by simp [actOf, hb]
 have e3 : (ds[i].t != ds[k].t) = true := by simpa using hn
 simp [raceC, h, e1, e2, e3]
theorem orConf (x : LitL) (ta : Option Addr) (tc : Nat) (a b : ActL) {c : Bool} (hc : conflictB x.vol a b = c) (wr : World) :
  ∀ d os, Calls Tryz.prog 22 #[.agg #[.int .i64 x.vars, .int .i64 x.vol, .int .i64 x.locks, .slice ta x.thr.length tc], .agg #[.int .i64 a.kind, .int .i64 a.var, .int .i64 a.n], .agg #[.int .i64 b.kind, .int .i64 b.var, .int .i64 b.n]] (Sort.grow (redrawn wr d) os) fun e w'' => e = .returned (.bool c) ∧ ∃ q : Regrown, w'' = Sort.grow (redrawn wr q.d) q.os := fun d os => by
 refine Calls.regrown_of ?_
 rw [← hc]
 exact conflict_calls x.vars x.vol x.locks ta x.thr.length tc a b _
theorem orActs {x : LitL} {w : World} {ta : Option Addr} {tc lo hi : Nat} (hh : hi ≤ w.heap.size) (hxH : ∀ W, Below w.heap.size w W → ListAt ThrR 1 true lo hi W (.slice ta x.thr.length tc) x.thr) {ds : List DoneL} (hin : ∀ d ∈ ds, d.t < x.thr.length ∧ ∃ a, actAt x d.t d.k = some a) {i k : Nat} (hi' : i < ds.length) (hk' : k < ds.length) :
  ∃ (a b : ActL) (b1 o1 la ua b2 o2 lb ub b3 o3 : Nat), ta = some ⟨b1, o1, none⟩ ∧ Hid (actAt x ds[i].t ds[i].k = some a) ∧ Hid (actAt x ds[k].t ds[k].k = some b) ∧ ((ds[i].t : Int) < (x.thr.length : Int) ∧ (ds[k].t : Int) < (x.thr.length : Int) ∧ (ds[i].k : Int) < (la : Int) ∧ (ds[k].k : Int) < (lb : Int)) ∧ Hid (∀ W, Below w.heap.size w W → ActAt W b1 o1 ds[i].t la ua b2 o2 ds[i].k a ∧ ActAt W b1 o1 ds[k].t lb ub b3 o3 ds[k].k b) := by
 obtain ⟨ht1, a, ha⟩ := hin _ (List.getElem_mem hi')
 obtain ⟨ht2, b, hb⟩ := hin _ (List.getElem_mem hk')
 have hx := hxH w (Below.refl _ _)
 obtain ⟨b1, o1, la, ua, b2, o2, e1, _, hk1, _, _, hA⟩ := actAt_of hx hh ha
 obtain ⟨b1', o1', lb, ub, b3, o3, e2, _, hk2, _, _, hB⟩ := actAt_of hx hh hb
 rw [e1] at e2
 obtain ⟨rfl, rfl⟩ : b1 = b1' ∧ o1 = o1' := by injection e2 with e2; injection e2 with e3 e4; exact ⟨e3, e4⟩
 exact ⟨a, b, b1, o1, la, ua, b2, o2, lb, ub, b3, o3, e1, ha, hb, ⟨by omega, by omega, by omega, by omega⟩, fun W hW => ⟨hA W hW, hB W hW⟩⟩
theorem MatR.race {w wr : World} {x : LitL} {ta : Option Addr} {tc : Nat} {v1 v2 v2' : Value} {ds : List DoneL} {rs : List RaceL} {M n i0 : Nat} {gs : Nat → Nat} {bs : Nat → Nat → Bool} (h : MatR wr M n i0 gs bs) (hO : OrW w wr x ta tc v1 v2 ds rs) : MatR (wr.setCell ⟨w.heap.size + 2, 1, none⟩ v2') M n i0 gs bs := by
 refine h.keep fun k hk => ?_
 by_cases e : k = w.heap.size + 2
 ·exact .inr ⟨_, _, _, by rw [e]; exact hO.out, by decide, by decide⟩
 ·exact .inl (heap_set_other _ _ _ _ e)
theorem OrW.final {w wr : World} {x : LitL} {ta : Option Addr} {tc : Nat} {v1 v2 : Value} {ds : List DoneL} {rs : List RaceL} (h : OrW w wr x ta tc v1 v2 ds rs) : wr.there (w.heap.size + 1) 0 2 ∧ (wr.setCells (w.heap.size + 1) 0 [v1, v2]).ownsRow 0 53 2 v1 ds.length (doneV ds) ∧ RacesAt 0 (wr.setCells (w.heap.size + 1) 0 [v1, v2]) v2 rs ∧ Below w.heap.size w (wr.setCells (w.heap.size + 1) 0 [v1, v2]) := by
 refine ⟨by have := there_heap h.res; simpa using this, own_kept (own_mono h.acts (Nat.zero_le _)) fun g hg => ?_, own_kept h.races fun g hg => ?_, below_setCells (w.heap.size + 1) (by omega) _ 0 wr h.hb⟩
 ·have := World.ownsRow.lt h.acts g hg
  exact World.heap_setCells_other wr (w.heap.size + 1) 0 _ this.2 (by omega)
 ·obtain ⟨c, hc⟩ := own_tag h.races hg
  refine World.heap_setCells_other wr (w.heap.size + 1) 0 _ (heap_lt hc) fun e => ?_
  rw [e, h.res] at hc
  have : (30 : TypeId) = 89 := by injection hc with hc; injection hc
  exact absurd this (by decide)
theorem OrW.form2 {w wr : World} {x : LitL} {ta : Option Addr} {tc : Nat} {v1 v2 : Value} {ds : List DoneL} {rs : List RaceL} (h : OrW w wr x ta tc v1 v2 ds rs) : ∃ ra rn rc, v2 = .slice ra rn rc := by
 obtain ⟨a, c, e⟩ := own_form h.races
 exact ⟨a, _, c, e⟩
theorem specRaces_len (x : LitL) (ds : List DoneL) (i : Nat) (h : ds.length ≤ 12) (hi : i ≤ 12) : (specRaces x ds i).length ≤ 144 := by
 have := flatMap_len_le (fun i => rowRaces x ds i ds.length) 12 (List.range i) (fun y _ => by
  have h1 := flatMap_len_le (raceAt x ds y) 1 (List.range' (y + 1) (ds.length - (y + 1))) (fun z _ => raceAt_le x ds y z)
  show (rowRaces x ds y ds.length).length ≤ 12
  unfold rowRaces
  simp only [List.length_range', Nat.mul_one] at h1
  omega)
 unfold specRaces
 simp only [List.length_range] at this
 omega
theorem foundR_len (x : LitL) (ds : List DoneL) (i k : Nat) (h : ds.length ≤ 12) (hi : i ≤ 12) (hk : k ≤ 12) : (foundR x ds i k).length ≤ 1000 := by
 unfold foundR
 have h1 := foldIns_len (specRaces x ds i ++ rowRaces x ds i k) []
 have h2 := specRaces_len x ds i h hi
 have h3 := flatMap_len_le (raceAt x ds i) 1 (List.range' (i + 1) (k - (i + 1))) (fun z _ => raceAt_le x ds i z)
 simp only [List.length_range', Nat.mul_one] at h3
 have h4 : (rowRaces x ds i k).length ≤ k - (i + 1) := h3
 simp only [List.length_append, List.length_nil] at h1
 omega
theorem orRace {w wr : World} {x : LitL} {ta : Option Addr} {tc : Nat} {v1 v2 : Value} {ds : List DoneL} {i k : Nat} (h : OrW w wr x ta tc v1 v2 ds (foundR x ds i k)) (hl : ds.length ≤ 12) (hi : i < ds.length) (hk : k < ds.length) (hik : i < k) (hr : raceAt x ds i k = [raceD ds[i] ds[k]]) :
  Hid (Calls Tryz.prog 23 #[v2, .int .i64 (ds[i].t : Int), .int .i64 (ds[i].k : Int), .int .i64 (ds[k].t : Int), .int .i64 (ds[k].k : Int)] wr fun e w' => ∃ ra rn rc, e = .returned (.slice ra rn rc) ∧ Hid (RacesAt 0 w' (.slice ra rn rc) (foundR x ds i (k + 1))) ∧ Below wr.heap.size wr w') := by
 refine (addRace_calls v2 (foundR x ds i k) _ _ _ _ wr h.races (foundR_len x ds i k hl (by omega) (by omega))).mono ?_
 rintro e w' ⟨⟨v', rfl, hR⟩, hb⟩
 obtain ⟨ra, rc, rfl⟩ := own_form hR
 refine ⟨ra, _, rc, rfl, ?_, hb⟩
 rw [foundR_yes hik hr]
 exact hR
end Go.Proofs.YtknbchheoloaoaaGreat
