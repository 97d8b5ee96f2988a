import Derived.Test.YtjjccimeikkogaaGreatDoorLkB
import Derived.Test.YtjjccimeikkogaaGreatDoorBtO
import Derived.Test.YtjjccimeikkogaaGreatDoorClsG
namespace Go.Proofs.YtjjccimeikkogaaGreatDoor
set_option linter.unusedVariables false
open Go.ChangeShapes Go.WideShapes Go.ChangeAt Go.RowKit
def cvF (x : Bt.FieldL) : FieldL := ⟨x.name, x.ty, x.flags⟩
def cvI (x : Bt.InsL) : InsL := ⟨x.o, x.k, x.a, x.b, x.T, x.C, x.N, x.Y, []⟩
def cvM (x : Bt.MethL) : MethL := ⟨x.name, x.sig, x.flags, x.stack, x.locals, x.code.map cvI, [], [], []⟩
def cvC (x : Bt.ClassL) : ClassL := ⟨x.name, x.super, [], x.flags, [], x.fields.map cvF, x.meths.map cvM⟩
def bootC : List ClassL := Bt.bootL.map cvC
theorem bootC_len : bootC.length = 16 := rfl
def allL (xs : List ClassL) : List ClassL := if spaceS xs then bootC ++ xs else bootC
theorem listF_K {α β : Type} {R : Bt.RdF α} {R' : Nat → World → List Value → β → Prop} {f : α → β} {k : Nat} {t : TypeId} {w W : World} {B : Nat} {v : Value} {xs : List α} {F : List Nat} (h : Bt.ListF R k t w v xs F) (he : ∀ b ∈ F, W.heap[b]? = w.heap[b]?) (hB : ∀ b ∈ F, b < B)
  (hR : ∀ row x G, R w row x G → (∀ b ∈ G, b ∈ F) → R' B W row (f x)) : LstK R' k B W v (xs.map f) := by
 rcases h with ⟨rfl, rfl, _⟩ | ⟨b, c, Fs, cur, rfl, hF, hl, hb, hs, hj⟩
 ·exact .inl ⟨rfl, rfl⟩
 ·have hbF : b ∈ F := by rw [hF]; simp
  refine .inr ⟨b, 0, c, by simp, hB b hbF, fun j hlt => ?_⟩
  have hlt' : j < xs.length := by simpa using hlt
  obtain ⟨row, h1, h2, h3⟩ := hj j hlt'
  refine ⟨row, h1, ?_, ?_⟩
  ·rw [Nat.zero_add]
   exact Bt.rangeAt_block (he b hbF) h2
  ·rw [List.getElem_map]
   refine hR row _ _ h3 fun d hd => ?_
   rw [hF]
   exact List.mem_cons_of_mem _ (Bt.mem_flat hd)
theorem classF_K {w W : World} {B : Nat} {row : List Value} {x : Bt.ClassL} {F : List Nat} (h : Bt.ClassF w row x F) (he : ∀ b ∈ F, W.heap[b]? = w.heap[b]?) (hB : ∀ b ∈ F, b < B) : ClsK B W row (cvC x) := by
 obtain ⟨s, t, F1, F2, rfl, h1, h2, rfl⟩ := h
 refine ⟨_, _, _, _, rfl, .inl ⟨rfl, rfl⟩, .inl ⟨rfl, rfl⟩, ?_, ?_⟩
 ·exact listF_K h1 (fun b hb => he b (by simp [hb])) (fun b hb => hB b (by simp [hb])) fun row x G hx _ => hx.1
 ·exact listF_K h2 (fun b hb => he b (by simp [hb])) (fun b hb => hB b (by simp [hb])) fun row x G hx _ => by
   obtain ⟨c, rfl, _⟩ := hx
   exact ⟨_, _, _, _, rfl⟩
theorem listAt_K {α : Type} {R : Rd α} {R' : Nat → World → List Value → α → Prop} {k lo hi B : Nat} {own : Bool} {w : World} {v : Value} {xs : List α} (h : ListAt R k own lo hi w v xs) (ho : own = true) (hB : hi ≤ B) (hR : ∀ row x, R own lo hi w row x → R' B w row x) : LstK R' k B w v xs := by
 rcases h with ⟨h, _⟩ | ⟨b, off, c, rfl, h1, h2, h3, h4⟩
 ·rw [ho] at h; cases h
 ·refine .inr ⟨b, off, c, rfl, by omega, fun j hj => ?_⟩
  obtain ⟨row, h5, h6, h7⟩ := h4 j hj
  exact ⟨row, h5, h6, hR _ _ h7⟩
theorem classR_K {lo hi B : Nat} {w : World} {row : List Value} {x : ClassL} (h : ClassR true lo hi w row x) (hB : hi ≤ B) : ClsK B w row x := by
 obtain ⟨p, q, s, t, rfl, h1, h2, h3, h4⟩ := h
 refine ⟨p, q, s, t, rfl, listAt_K h1.1 rfl hB fun _ _ h => h, listAt_K h2.1 rfl hB fun _ _ h => h, listAt_K h3 rfl hB fun _ _ h => h, listAt_K h4 rfl hB fun row x h => ?_⟩
 obtain ⟨c, h', f, l, rfl, _⟩ := h
 exact ⟨c, h', f, l, rfl⟩
theorem allAt_own {lo hi B : Nat} {w : World} {v : Value} {xs : List ClassL} (h : ListAt ClassR 7 true lo hi w v xs) (hB : hi ≤ B) : AllAt B w v xs := listAt_K h rfl hB fun _ _ h => classR_K h hB
def RowsC {α : Type} (R : Nat → World → List Value → α → Prop) (k B : Nat) (W : World) (cells : List Value) (xs : List α) : Prop :=
 cells.length = xs.length * k ∧ ∀ j (h : j < xs.length), R B W ((cells.drop (j * k)).take k) xs[j]
theorem RowsC.append {α : Type} {R : Nat → World → List Value → α → Prop} {k B : Nat} {W : World} {c1 c2 : List Value} {x1 x2 : List α} (h1 : RowsC R k B W c1 x1) (h2 : RowsC R k B W c2 x2) : RowsC R k B W (c1 ++ c2) (x1 ++ x2) := by
 refine ⟨by simp [h1.1, h2.1, Nat.add_mul], fun j hj => ?_⟩
 by_cases hlt : j < x1.length
 ·rw [List.getElem_append_left hlt]
  have := h1.2 j hlt
  have hk : j * k + k ≤ c1.length := by
   rw [h1.1, ← Nat.succ_mul]; exact Nat.mul_le_mul_right _ hlt
  have e : ((c1 ++ c2).drop (j * k)).take k = (c1.drop (j * k)).take k := by
   rw [List.drop_append_of_le_length (by omega), List.take_append_of_le_length (by simp; omega)]
  rw [e]; exact this
 ·rw [List.getElem_append_right (by omega)]
  have hj2 : j - x1.length < x2.length := by simp at hj; omega
  have := h2.2 _ hj2
  have e : (c1 ++ c2).drop (j * k) = c2.drop ((j - x1.length) * k) := by
   rw [List.drop_append, h1.1]
   have : c1.drop (j * k) = [] := List.drop_eq_nil_of_le (by rw [h1.1]; exact Nat.mul_le_mul_right _ (by omega))
   rw [this, List.nil_append, Nat.sub_mul]
  rw [e]; exact this
theorem RowsC.at {α : Type} {R : Nat → World → List Value → α → Prop} {k B : Nat} {W : World} {cells : List Value} {xs : List α} (h : RowsC R k B W cells xs) {g n c : Nat} (hn : n = xs.length) (hg : g < B) (hr : W.rangeAt g 0 cells) : LstK R k B W (.slice (some ⟨g, 0, none⟩) n c) xs := by
 subst hn
 refine .inr ⟨g, 0, c, rfl, hg, fun j hj => ⟨_, ?_, ?_, h.2 j hj⟩⟩
 ·have hk : j * k + k ≤ cells.length := by
   rw [h.1, ← Nat.succ_mul]; exact Nat.mul_le_mul_right _ hj
  simp; omega
 ·intro i u hu
  have hi : i < k := by
   have := (List.getElem?_eq_some_iff.1 hu).1
   simp at this; omega
  rw [List.getElem?_take_of_lt hi, List.getElem?_drop] at hu
  have := hr (j * k + i) u hu
  simp only [Nat.zero_add] at this ⊢
  exact this
theorem LstK.cells {α : Type} {R : Nat → World → List Value → α → Prop} {k B : Nat} {w : World} {v : Value} {xs : List α} (h : LstK R k B w v xs) : ∃ cells, RowsC R k B w cells xs ∧ ((v = .slice none 0 0 ∧ xs = [] ∧ cells = []) ∨ ∃ b off c, v = .slice (some ⟨b, off, none⟩) xs.length c ∧ b < B ∧ w.rangeAt b off cells) := by
 rcases h with ⟨rfl, rfl⟩ | ⟨b, off, c, rfl, hb, hx⟩
 ·exact ⟨[], ⟨by simp, fun j hj => by simp at hj⟩, .inl ⟨rfl, rfl, rfl⟩⟩
 ·have key : ∀ m, m ≤ xs.length → ∃ cells, cells.length = m * k ∧ w.rangeAt b off cells ∧ ∀ j (h : j < xs.length), j < m → R B w ((cells.drop (j * k)).take k) xs[j] := by
   intro m
   induction m with
   | zero => exact fun _ => ⟨[], by simp, fun i u hu => by simp at hu, fun j _ h => by omega⟩
   | succ m ih =>
    intro hm
    obtain ⟨cs, h1, h2, h3⟩ := ih (by omega)
    obtain ⟨row, hl, hr, hR⟩ := hx m (by omega)
    refine ⟨cs ++ row, by simp [h1, hl, Nat.succ_mul], fun i u hu => ?_, fun j hj hlt => ?_⟩
    ·by_cases hi : i < cs.length
     ·rw [List.getElem?_append_left hi] at hu
      exact h2 i u hu
     ·rw [List.getElem?_append_right (by omega)] at hu
      have := hr _ u hu
      rw [show off + m * k + (i - cs.length) = off + i by omega] at this
      exact this
    ·by_cases he : j < m
     ·have hk : j * k + k ≤ cs.length := by
       rw [h1, ← Nat.succ_mul]; exact Nat.mul_le_mul_right _ he
      have e : ((cs ++ row).drop (j * k)).take k = (cs.drop (j * k)).take k := by
       rw [List.drop_append_of_le_length (by omega), List.take_append_of_le_length (by simp; omega)]
      rw [e]; exact h3 j hj he
     ·obtain rfl : j = m := by omega
      have e : ((cs ++ row).drop (j * k)).take k = row := by
       rw [← h1, List.drop_left, List.take_of_length_le (by omega)]
      rw [e]; exact hR
  obtain ⟨cells, h1, h2, h3⟩ := key xs.length (Nat.le_refl _)
  exact ⟨cells, ⟨h1, fun j hj => h3 j hj hj⟩, .inr ⟨b, off, c, rfl, hb, h2⟩⟩
theorem bootQ_rows {w w1 : World} {e : Ending} (h : Bt.BootQ w e w1) : ∃ v cells, e = .returned v ∧ w1.ownsRow w.heap.size 49 7 v 16 cells ∧ (∀ B W, Below w1.heap.size w1 W → w1.heap.size ≤ B → RowsC ClsK 7 B W cells bootC) ∧
  (∀ B W, w1.grownBy W v.ownBlock → w1.heap.size ≤ B → RowsC ClsK 7 B W cells bootC) ∧ Below w.heap.size w w1 := by
 obtain ⟨⟨v, F, rfl, hl, hnd, hge, cells, ho⟩, hb⟩ := h
 have hlt := Bt.ListF.lt Bt.ClassF.good hl
 have key : ∀ B W, (∀ b ∈ F, v.ownBlock ≠ some b → W.heap[b]? = w1.heap[b]?) → w1.heap.size ≤ B → RowsC ClsK 7 B W cells bootC := fun B W hk hB => by
  obtain ⟨hlen, ⟨_, h0⟩ | ⟨g, cap, cur, rfl, hbg, hg, hnc, hcm, hcs, htake⟩⟩ := ho
  ·omega
  rcases hl with ⟨h0, _⟩ | ⟨b, c, Fs, cur', e, hF, hFl, hbl, hs, hj⟩
  ·cases h0
  ·injection e with e1 e2 e3
   injection e1 with e1
   injection e1 with e1
   subst e1
   refine ⟨by rw [hlen]; rfl, fun j hjl => ?_⟩
   have hj16 : j < 16 := hjl
   have hjb : j < Bt.bootL.length := hj16
   obtain ⟨row, h1, h2, h3⟩ := hj j hjb
   have erow : (cells.drop (j * 7)).take 7 = row := by
    apply List.ext_getElem?
    intro i
    by_cases hi : i < 7
    ·rw [List.getElem?_take_of_lt hi, List.getElem?_drop]
     have hri : row[i]? = some (row[i]'(by omega)) := List.getElem?_eq_getElem _
     have h5 := h2 i _ hri
     have hc : w1.cell? ⟨g, j * 7 + i, none⟩ = cur[j * 7 + i]? := by simp [World.cell?, hg]
     rw [hc] at h5
     rw [hri, ← htake, List.getElem?_take_of_lt (by omega)]
     simpa using h5
    ·rw [List.getElem?_eq_none (by simp; omega), List.getElem?_eq_none (by omega)]
   rw [erow]
   have hG : ∀ d ∈ Fs[j]?.getD [], d ∈ F ∧ d ≠ g := fun d hd => by
    have hm : d ∈ List.flatten Fs := Bt.mem_flat hd
    rw [hF] at hnd
    exact ⟨by rw [hF]; exact List.mem_cons_of_mem _ hm, fun q => (List.nodup_cons.1 hnd).1 (q ▸ hm)⟩
   have hx : bootC[j] = cvC (Bt.bootL[j]'hjb) := by simp [bootC]
   refine (show ClsK B W row (cvC (Bt.bootL[j]'hjb)) → ClsK B W row bootC[j] from fun q => hx ▸ q) ?_
   refine classF_K h3 (fun d hd => hk d (hG d hd).1 fun q => (hG d hd).2 ?_) (fun d hd => by have := hlt d (hG d hd).1; omega)
   simp only [Value.ownBlock, Option.some.injEq] at q
   exact q.symm
 exact ⟨v, cells, rfl, ho, fun B W hW hB => key B W (fun b hbF _ => hW.block b (hlt b hbF)) hB, fun B W hW hB => key B W (fun b hbF hne => hW.block b (hlt b hbF) (fun q => hne q.symm)) hB, hb⟩
theorem ClsK.one {B : Nat} {w : World} {row : List Value} {x : ClassL} (h : ClsK B w row x) : ∀ u ∈ row, u.oneCell' = true := by
 obtain ⟨p, q, s, t, rfl, h1, h2, h3, h4⟩ := h
 obtain ⟨a1, c1, rfl⟩ := h1.form
 obtain ⟨a2, c2, rfl⟩ := h2.form
 obtain ⟨a3, c3, rfl⟩ := h3.form
 obtain ⟨a4, c4, rfl⟩ := h4.form
 intro u hu
 simp only [List.mem_cons, List.not_mem_nil, or_false] at hu
 rcases hu with rfl | rfl | rfl | rfl | rfl | rfl | rfl <;> rfl
theorem RowsC.one {B : Nat} {w : World} {cells : List Value} {xs : List ClassL} (h : RowsC ClsK 7 B w cells xs) : ∀ u ∈ cells, u.oneCell' = true := fun u hu => by
 obtain ⟨i, hi, rfl⟩ := List.mem_iff_getElem.1 hu
 have hl := h.1
 have hj : i / 7 < xs.length := by omega
 refine (h.2 (i / 7) hj).one _ ?_
 refine List.mem_iff_getElem?.2 ⟨i % 7, ?_⟩
 rw [List.getElem?_take_of_lt (by omega), List.getElem?_drop, show i / 7 * 7 + i % 7 = i by omega]
 exact List.getElem?_eq_getElem hi
theorem RowsC.kept {α : Type} {R : Nat → World → List Value → α → Prop} (hR : KeptK R) {k B B' : Nat} {w w' : World} {cells : List Value} {xs : List α} (h : RowsC R k B w cells xs) (hB : B ≤ B') (hs : Same 0 B w w') : RowsC R k B' w' cells xs := ⟨h.1, fun j hj => hR _ _ _ _ _ _ (h.2 j hj) hB hs⟩
theorem src_cells {α : Type} {k B : Nat} {w W : World} {v : Value} {xs : List α} {cells : List Value} (hl : cells.length = xs.length * k) (h : (v = .slice none 0 0 ∧ xs = [] ∧ cells = []) ∨ ∃ b off c, v = .slice (some ⟨b, off, none⟩) xs.length c ∧ b < B ∧ w.rangeAt b off cells) (hW : Below B w W) : SrcAt W k v xs.length cells := by
 rcases h with ⟨rfl, rfl, rfl⟩ | ⟨b, off, c, rfl, hb, hr⟩
 ·exact .inl ⟨rfl, rfl, rfl⟩
 ·refine .inr ⟨⟨b, off, none⟩, c, rfl, hl, fun j u hu => ?_⟩
  rw [Addr.add_mid]
  exact (hW.cell (p := ⟨b, off + j, none⟩) hb).trans (hr j u hu)
theorem own_range {w : World} {base : Nat} {e : TypeId} {size : Nat} {v : Value} {n : Nat} {cells : List Value} (h : w.ownsRow base e size v n cells) (hn : 0 < n) : ∃ g c, v = .slice (some ⟨g, 0, none⟩) n c ∧ g < w.heap.size ∧ base ≤ g ∧ w.rangeAt g 0 cells := by
 rcases h.2 with ⟨_, h0⟩ | ⟨g, cap, cur, rfl, hb, hg, h1, h2, h3, h4⟩
 ·omega
 ·refine ⟨g, cap, rfl, (Array.getElem?_eq_some_iff.1 hg).1, hb, fun j u hu => ?_⟩
  have hj : j < n * size := by
   have h5 := (List.getElem?_eq_some_iff.1 hu).1
   have h6 := h.1
   omega
  rw [← h4, List.getElem?_take_of_lt hj] at hu
  simp only [World.cell?, hg, Nat.zero_add]
  simpa using hu
theorem all_at {w0 w1 W w2 : World} {v v2 : Value} {cells news : List Value} {xs : List ClassL} {B : Nat} (ho : w1.ownsRow w0.heap.size 49 7 v 16 cells) (hb1 : ∀ B W, w1.grownBy W v.ownBlock → w1.heap.size ≤ B → RowsC ClsK 7 B W cells bootC)
  (hW : w1.grownBy W v.ownBlock) (hg : W.grownBy w2 v.ownBlock) (ho2 : w2.ownsRow w0.heap.size 49 7 v2 (16 + xs.length) (cells ++ news)) (hr : RowsC ClsK 7 B w0 news xs) (hB : B ≤ w0.heap.size) (hb0 : Below w0.heap.size w0 w2) : AllAt w2.heap.size w2 v2 (bootC ++ xs) := by
 obtain ⟨g, c, rfl, hg1, hg2, hg3⟩ := own_range ho2 (by omega)
 have h1 := hb1 w2.heap.size w2 (hW.trans hg) ((hW.trans hg).size)
 have h2 : RowsC ClsK 7 w2.heap.size w2 news xs := hr.kept ClsK.kept (Nat.le_trans hB hb0.size) (Same.below (hb0.mono hB))
 exact (h1.append h2).at (by simp [bootC_len]) hg1 hg3
theorem boot_at {w0 w1 : World} {v : Value} {cells : List Value} (ho : w1.ownsRow w0.heap.size 49 7 v 16 cells) (hb1 : ∀ B W, Below w1.heap.size w1 W → w1.heap.size ≤ B → RowsC ClsK 7 B W cells bootC) : AllAt w1.heap.size w1 v bootC := by
 obtain ⟨g, c, rfl, hg1, hg2, hg3⟩ := own_range ho (by omega)
 exact (hb1 _ w1 (Below.refl _ _) (Nat.le_refl _)).at rfl hg1 hg3
theorem BootEnv.bt {w : World} (h : BootEnv w) : Bt.BootEnv w := ⟨h.1, h.2⟩
set_option maxRecDepth 1000000 in
set_option maxHeartbeats 4000000 in
theorem all6_calls (a : Option Addr) (n c : Nat) (xs : List ClassL) (w : World) (lo hi : Nat) (hh : hi ≤ w.heap.size) (ht : ListAt ClassR 7 true lo hi w (.slice a n c) xs) (hx : xs.length = n) (hn : n ≤ 1048576) (hs : ∀ x ∈ xs, x.small) (he : BootEnv w) :
  Calls Tryz.prog 25 #[.slice a n c] w fun e w' => (∃ v, e = .returned v ∧ AllAt w'.heap.size w' v (allL xs)) ∧ Below w.heap.size w w' := by
 obtain ⟨i0, hi0, hz0, hz1, hz2⟩ := info_parts Bt.info42
 have hsp : Hid (Calls Tryz.prog 45 #[.slice a n c] w fun e w' => e = .returned (.bool (spaceS xs)) ∧ Below w.heap.size w w') := specSpace_walk a n c w xs lo hi hh ht hx hn hs
 have heH : Hid (BootEnv w) := he
 have hxH : Hid (xs.length = n) := hx
 obtain ⟨news, hrows, hcells⟩ := LstK.cells (allAt_own ht hh)
 have hrH : Hid (RowsC ClsK 7 w.heap.size w news xs) := hrows
 have hcH : Hid ((Value.slice a n c = .slice none 0 0 ∧ xs = [] ∧ news = []) ∨ ∃ b off c', Value.slice a n c = .slice (some ⟨b, off, none⟩) xs.length c' ∧ b < w.heap.size ∧ w.rangeAt b off news) := hcells
 obtain ⟨L, hL⟩ : ∃ L, allL xs = L := ⟨_, rfl⟩
 rw [hL]
 have hLH : Hid (allL xs = L) := hL
 clear hrows hcells ht hh hs he hx hL
 go_enter Tryz.func25, Tryz.ntmps25
 go_wp2_with fail
 refine hsp.out.mono ?_
 rintro e w1 ⟨rfl, hb1⟩
 have hbH : Hid (Below w.heap.size w w1) := hb1
 clear hb1 hsp
 cases hsS : spaceS xs with
 | false =>
  go_wp2_with fail
  refine (Bt.specBoot_calls w1 (heH.out.kept hbH.out).bt).mono ?_
  intro e w2 hq
  obtain ⟨v, cells, rfl, ho, hk, -, hb2⟩ := bootQ_rows hq
  have hat := boot_at ho hk
  rw [show bootC = L by rw [← hLH.out]; unfold allL; rw [hsS]; rfl] at hat
  obtain ⟨va, vc, rfl⟩ := own_shape ho
  have hatH : Hid (AllAt w2.heap.size w2 (.slice va 16 vc) L ∧ Below w.heap.size w w2) := ⟨hat, below_on2 hbH.out hb2⟩
  clear hq ho hk hb2 hat
  go_wp2
  go_ret
  exact ⟨⟨_, rfl, hatH.out.1⟩, hatH.out.2⟩
 | true =>
  go_wp2_with fail
  refine (Bt.specBoot_calls w1 (heH.out.kept hbH.out).bt).mono ?_
  intro e w2 hq
  obtain ⟨v, cells, rfl, ho, -, hk, hb2⟩ := bootQ_rows hq
  obtain ⟨va, vc, rfl⟩ := own_shape ho
  have hoH : Hid (w2.ownsRow w1.heap.size 49 7 (.slice va 16 vc) 16 cells) := ho
  have hkH : Hid (∀ B W, w2.grownBy W (Value.slice va 16 vc).ownBlock → w2.heap.size ≤ B → RowsC ClsK 7 B W cells bootC) := hk
  have hb2H : Hid (Below w1.heap.size w1 w2) := hb2
  clear hq ho hk hb2
  go_wp2_with (refine wpList_append_src rfl (.tmp 7) (.tmp 8) 26 rfl w1.heap.size 49 i0 _ 7 136 Tryz.underlying26 hi0 hz0 hz1 hz2 rfl (by decide) _ 16 cells rfl hoH.out _ n news rfl (by
    have := src_cells (k := 7) hrH.out.1 hcH.out (below_on2 hbH.out hb2H.out)
    rw [hxH.out] at this
    exact this) hrH.out.one (by unfold maxLen; omega) (by omega) hb2H.out.size ?_; intro v3 w3 hown hgrow hat3)
  have hb3 : Below w1.heap.size w1 w3 := hb2H.out.trans (grown_below' hgrow (fun k e => by
   obtain ⟨g, c', e2, _, hg, _⟩ := own_range hoH.out (by omega)
   rw [e2] at e
   have : g = k := Option.some.inj e
   omega) hb2H.out.size)
  have hall := all_at (B := w.heap.size) (W := w2) hoH.out hkH.out (World.grownBy.refl w2 _) hgrow (by rw [hxH.out]; exact hown) (hrH.out.kept ClsK.kept (Nat.le_refl _) (Same.below hbH.out)) hbH.out.size hb3
  rw [show bootC ++ xs = L by rw [← hLH.out]; unfold allL; rw [hsS]; rfl] at hall
  have hallH : Hid (AllAt w3.heap.size w3 v3 L ∧ Below w.heap.size w w3) := ⟨hall, below_on2 hbH.out hb3⟩
  clear hown hgrow hat3 hb3 hall
  go_ret
  exact ⟨⟨_, rfl, hallH.out.1⟩, hallH.out.2⟩
end Go.Proofs.YtjjccimeikkogaaGreatDoor
